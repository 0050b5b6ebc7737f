package lease_test

import (
	"math/rand"
	"slices"

	"domicile/api"
)

// refVote follows the definitions one by one.
func refVote(v api.Voter, l api.Lease, now int) (api.Voter, bool) {
	wellFormed := l.Hub >= 0 && l.Hub <= 2 && l.Fence >= 1 && l.Fence <= 1000000000 && l.Until > now && l.Until <= 2000000000
	if now < 0 || now > 1000000000 || !wellFormed || l.Fence <= v.Fence || v.Until > now && v.Hub != l.Hub {
		return v, false
	}
	next := api.Voter{Fence: l.Fence, Hub: l.Hub, Until: l.Until}
	if v.Hub == l.Hub && v.Until > l.Until {
		next.Until = v.Until
	}
	return next, true
}

func refPropose(l []api.Voter, answer []bool, hub, now, length int) (api.Lease, api.Errno) {
	n := len(l)
	if n != 2 && n != 3 || len(answer) != n || hub < 0 || hub >= n || now < 0 || now > 1000000000 || length < 1 || length > 1000000 {
		return api.Lease{}, api.ErrArg
	}
	var fences []int
	for i, v := range l {
		if answer[i] {
			fences = append(fences, v.Fence)
		}
	}
	if len(fences) < 2 {
		return api.Lease{}, api.ErrLease
	}
	if slices.Max(fences) > 999999999 {
		return api.Lease{}, api.ErrLimit
	}
	return api.Lease{Hub: hub, Fence: slices.Max(fences) + 1, Until: now + length}, api.OK
}

func refElect(l []api.Voter, answer []bool, hub, now, length int) ([]api.Voter, api.Lease, api.Errno) {
	lease, err := refPropose(l, answer, hub, now, length)
	if err != api.OK {
		return nil, api.Lease{}, err
	}
	var next []api.Voter
	votes := 0
	for i, v := range l {
		if answer[i] {
			w, agrees := refVote(v, lease, now)
			if v = w; agrees {
				votes++
			}
		}
		next = append(next, v)
	}
	if votes < 2 {
		return next, api.Lease{}, api.ErrLease
	}
	return next, lease, api.OK
}

// maker makes up voters and elections.
type maker struct{ *rand.Rand }

func (m maker) chance(n int) bool { return m.Intn(n) == 0 }

func (m maker) strange() int {
	return []int{-1, 0, 1, 3, 1000000, 1000001, 999999999, 1000000000, 1000000001, 2000000000, 2000000001, 1<<63 - 1, -1 << 63}[m.Intn(13)]
}

func (m maker) voter() api.Voter {
	v := api.Voter{Fence: m.Intn(6), Hub: m.Intn(3), Until: m.Intn(100)}
	if m.chance(15) {
		*[]*int{&v.Fence, &v.Hub, &v.Until}[m.Intn(3)] = m.strange()
	}
	return v
}

func (m maker) lease() (api.Lease, int) {
	l, now := api.Lease{Hub: m.Intn(3), Fence: m.Intn(9), Until: 30 + m.Intn(100)}, m.Intn(100)
	if m.chance(8) {
		*[]*int{&l.Fence, &l.Hub, &l.Until, &now}[m.Intn(4)] = m.strange()
	}
	return l, now
}

func (m maker) answers(n int) []bool {
	l := make([]bool, n)
	for i := range l {
		l[i] = !m.chance(4)
	}
	return l
}
