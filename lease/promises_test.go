package lease_test

import (
	"math/rand"
	"slices"
	"testing"

	"domicile/api"
	"domicile/lease"
)

// P38.2: who agrees has a greater fence, and does not agree again; who does not stays as it is.
func TestVotes(t *testing.T) {
	m := maker{rand.New(rand.NewSource(382))}
	for range 10000 {
		v := m.voter()
		l, now := m.lease()
		next, agrees := lease.Vote(v, l, now)
		if agrees && next.Fence <= v.Fence || !agrees && next != v {
			t.Fatalf("Vote(%v, %v, %d) = %v, %v", v, l, now, next, agrees)
		}
		if again, also := lease.Vote(next, l, now); also || again != next {
			t.Fatalf("Vote(%v, %v, %d) agrees again", next, l, now)
		}
	}
}

// got is a lease with the time at which it was got.
type got struct {
	api.Lease
	from int
}

// P38.3 to P38.5: fences increase, no two hubs have a lease at a time, and without a majority nothing changes.
func TestElections(t *testing.T) {
	m := maker{rand.New(rand.NewSource(383))}
	leases, changes := 0, 0
	for range 1000 {
		voters := make([]api.Voter, 2+m.Intn(2))
		now := m.Intn(100)
		var l []got
		for range 20 {
			now += m.Intn(15)
			answer, hub := m.answers(len(voters)), m.Intn(len(voters))
			next, granted, err := lease.Elect(voters, answer, hub, now, 1+m.Intn(40))
			if n := len(slices.DeleteFunc(slices.Clone(answer), func(yes bool) bool { return !yes })); n < 2 {
				if err != api.ErrLease || len(next) > 0 || granted != (api.Lease{}) {
					t.Fatalf("Elect(%v, %v) = %v, %v, %d", voters, answer, next, granted, err)
				}
				continue
			}
			for i := range next {
				if !answer[i] && next[i] != voters[i] {
					t.Fatalf("%v changed without an answer to %v", voters[i], next[i])
				}
			}
			if voters = next; err != api.OK {
				continue
			}
			for _, before := range l {
				if before.Fence >= granted.Fence {
					t.Fatalf("%v after %v", granted, before)
				}
				if before.Hub == granted.Hub {
					continue
				}
				changes++
				for time := before.from; time < before.Until; time++ {
					if time >= now && lease.Holds(before.Lease, time) && lease.Holds(granted, time) {
						t.Fatalf("%v and %v, which was got at %d, at the time %d", before, granted, now, time)
					}
				}
			}
			l = append(l, got{granted, now})
		}
		leases += len(l)
	}
	if leases < 5000 || changes < 5000 {
		t.Errorf("the test covers too little: %d, %d", leases, changes)
	}
}

// P38.6, P38.7: a hub can renew its lease; when all are over, any hub for which a majority answers gets one.
func TestRenewal(t *testing.T) {
	m := maker{rand.New(rand.NewSource(386))}
	renewed := 0
	for range 2000 {
		voters := make([]api.Voter, 2+m.Intn(2))
		now, over := m.Intn(100), 0
		for range m.Intn(8) {
			now += m.Intn(9)
			length := 1 + m.Intn(40)
			next, _, err := lease.Elect(voters, m.answers(len(voters)), m.Intn(len(voters)), now, length)
			if over = max(over, now+length); err == api.OK || len(next) > 0 {
				voters = next
			}
		}
		answer, hub := m.answers(len(voters)), m.Intn(len(voters))
		next, granted, err := lease.Elect(voters, answer, hub, now, 1+m.Intn(40))
		if err == api.OK {
			renewed++
			again, second, err := lease.Elect(next, answer, hub, now+m.Intn(granted.Until-now+1), 1+m.Intn(40))
			if err != api.OK {
				t.Fatalf("%v is not renewed by %v: %d", granted, next, err)
			}
			if _, _, err = lease.Elect(again, answer, hub, max(now, second.Until), 5); err != api.OK {
				t.Fatalf("%v is not renewed by %v: %d", second, again, err)
			}
		}
		enough := len(slices.DeleteFunc(slices.Clone(answer), func(yes bool) bool { return !yes })) >= 2
		if _, _, err := lease.Elect(voters, answer, hub, max(now, over), 5); (err == api.OK) != enough {
			t.Fatalf("Elect(%v, %v, %d) at %d = %d", voters, answer, hub, over, err)
		}
	}
	if renewed < 300 {
		t.Errorf("only %d leases were renewed", renewed)
	}
}
