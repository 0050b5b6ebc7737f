package lease_test

import (
	"fmt"
	"math"
	"math/rand"
	"slices"
	"testing"

	"domicile/api"
	"domicile/lease"
)

func same(a, b any) bool { return fmt.Sprintf("%+v", a) == fmt.Sprintf("%+v", b) }

// P38.1: the examples of the chapter.
func TestExamples(t *testing.T) {
	l := make([]api.Voter, 3)
	for i, test := range []struct {
		hub, now, length int
		answer           []bool
		voters           []api.Voter
		lease            api.Lease
		err              api.Errno
	}{
		{0, 100, 60, []bool{true, true, true}, []api.Voter{{Fence: 1, Until: 160}, {Fence: 1, Until: 160}, {Fence: 1, Until: 160}}, api.Lease{Hub: 0, Fence: 1, Until: 160}, api.OK},
		{1, 150, 60, []bool{true, true, true}, []api.Voter{{Fence: 1, Until: 160}, {Fence: 1, Until: 160}, {Fence: 1, Until: 160}}, api.Lease{}, api.ErrLease},
		{0, 150, 5, []bool{true, true, false}, []api.Voter{{Fence: 2, Until: 160}, {Fence: 2, Until: 160}, {Fence: 1, Until: 160}}, api.Lease{Hub: 0, Fence: 2, Until: 155}, api.OK},
		{1, 160, 60, []bool{false, true, true}, []api.Voter{{Fence: 2, Until: 160}, {Fence: 3, Hub: 1, Until: 220}, {Fence: 3, Hub: 1, Until: 220}}, api.Lease{Hub: 1, Fence: 3, Until: 220}, api.OK},
		{2, 170, 60, []bool{true, true, true}, []api.Voter{{Fence: 4, Hub: 2, Until: 230}, {Fence: 3, Hub: 1, Until: 220}, {Fence: 3, Hub: 1, Until: 220}}, api.Lease{}, api.ErrLease},
	} {
		voters, got, err := lease.Elect(l, test.answer, test.hub, test.now, test.length)
		if err != test.err || got != test.lease || !slices.Equal(voters, test.voters) {
			t.Errorf("%d: Elect(%v) = %v, %v, %d", i, l, voters, got, err)
		}
		l = voters
	}
}

// P38.1, AL4: when a lease is valid.
func TestHolds(t *testing.T) {
	for i, test := range []struct {
		l    api.Lease
		now  int
		want bool
	}{
		{api.Lease{Fence: 1, Until: 5}, 4, true}, {api.Lease{Fence: 1, Until: 5}, 5, false}, {api.Lease{Fence: 1, Until: 5}, 0, true}, {api.Lease{Fence: 1, Until: 5}, -1, false}, {api.Lease{Until: 5}, 4, false}, {api.Lease{Fence: -1, Until: 5}, 4, false},
		{api.Lease{Fence: 1, Until: 2000000000}, 1000000000, true}, {api.Lease{Fence: 1, Until: 2000000000}, 1000000001, false}, {api.Lease{Hub: 9, Fence: math.MaxInt, Until: math.MaxInt}, 3, true}, {api.Lease{}, 0, false},
	} {
		if got := lease.Holds(test.l, test.now); got != test.want {
			t.Errorf("%d: Holds(%v, %d) = %v", i, test.l, test.now, got)
		}
	}
}

// P38.1, AL1: votes at all limits.
func TestVote(t *testing.T) {
	v := api.Voter{Fence: 4, Hub: 1, Until: 50}
	for i, test := range []struct {
		l    api.Lease
		now  int
		want bool
	}{
		{api.Lease{Hub: 1, Fence: 5, Until: 40}, 30, true}, {api.Lease{Hub: 1, Fence: 4, Until: 90}, 30, false}, {api.Lease{Hub: 2, Fence: 5, Until: 90}, 30, false}, {api.Lease{Hub: 2, Fence: 5, Until: 90}, 49, false}, {api.Lease{Hub: 2, Fence: 5, Until: 90}, 50, true},
		{api.Lease{Hub: 3, Fence: 5, Until: 90}, 50, false}, {api.Lease{Hub: -1, Fence: 5, Until: 90}, 50, false}, {api.Lease{Fence: 1000000000, Until: 2000000000}, 1000000000, true}, {api.Lease{Fence: 1000000001, Until: 90}, 50, false}, {api.Lease{Fence: 5, Until: 2000000001}, 50, false},
		{api.Lease{Fence: 5, Until: 60}, 60, false}, {api.Lease{Fence: 5, Until: 60}, 59, true}, {api.Lease{Hub: 1, Fence: 5, Until: 60}, -1, false}, {api.Lease{Fence: 5, Until: 2000000000}, 1000000001, false}, {api.Lease{Fence: 5, Until: math.MaxInt}, math.MaxInt, false}, {api.Lease{Hub: 1, Fence: 5, Until: math.MinInt}, math.MinInt, false},
	} {
		next, agrees := lease.Vote(v, test.l, test.now)
		want, _ := refVote(v, test.l, test.now)
		if agrees != test.want || next != want {
			t.Errorf("%d: Vote(%v, %v, %d) = %v, %v, want %v, %v", i, v, test.l, test.now, next, agrees, want, test.want)
		}
	}
	if next, agrees := lease.Vote(api.Voter{Fence: -5}, api.Lease{Fence: 0, Until: 9}, 5); agrees || next != (api.Voter{Fence: -5}) {
		t.Errorf("Vote for the fence 0 = %v", next)
	}
}

// P38.1, AL2: errors, and their order.
func TestPropose(t *testing.T) {
	three, yes := make([]api.Voter, 3), []bool{true, true, true}
	last := []api.Voter{{Fence: 1000000000}, {Fence: 999999999}, {Fence: 999999999}}
	for i, test := range []struct {
		l                []api.Voter
		answer           []bool
		hub, now, length int
		want             api.Errno
	}{
		{three, yes, 2, 1000000000, 1000000, api.OK}, {three[:2], yes[:2], 1, 0, 1, api.OK}, {last, []bool{false, true, true}, 0, 0, 1, api.OK}, {three, []bool{true, false, true}, 1, 0, 1, api.OK},
		{three[:1], yes[:1], 0, 0, 1, api.ErrArg}, {nil, nil, 0, 0, 1, api.ErrArg}, {make([]api.Voter, 4), make([]bool, 4), 0, 0, 1, api.ErrArg}, {three, yes[:2], 0, 0, 1, api.ErrArg}, {three[:2], yes, 0, 0, 1, api.ErrArg},
		{three, yes, 3, 0, 1, api.ErrArg}, {three, yes, -1, 0, 1, api.ErrArg}, {three[:2], yes[:2], 2, 0, 1, api.ErrArg}, {three, yes, 0, -1, 1, api.ErrArg}, {three, yes, 0, 1000000001, 1, api.ErrArg}, {three, yes, 0, 0, 0, api.ErrArg}, {three, yes, 0, 0, -1, api.ErrArg}, {three, yes, 0, 0, 1000001, api.ErrArg},
		{three, []bool{true, false, false}, 0, 0, 1, api.ErrLease}, {three, make([]bool, 3), 0, 0, 1, api.ErrLease}, {three[:2], []bool{true, false}, 0, 0, 1, api.ErrLease}, {last, []bool{true, false, false}, 0, 0, 1, api.ErrLease}, {three, make([]bool, 3), 0, 0, 0, api.ErrArg},
		{last, yes, 0, 0, 1, api.ErrLimit}, {[]api.Voter{{Fence: math.MaxInt}, {}}, yes[:2], 0, 0, 1, api.ErrLimit}, {last, yes, 3, 0, 1, api.ErrArg},
	} {
		got, err := lease.Propose(test.l, test.answer, test.hub, test.now, test.length)
		want, _ := refPropose(test.l, test.answer, test.hub, test.now, test.length)
		if err != test.want || got != want {
			t.Errorf("%d: Propose = %v, %d, want %v, %d", i, got, err, want, test.want)
		}
		if voters, l, elected := lease.Elect(test.l, test.answer, test.hub, test.now, test.length); err != api.OK && (elected != err || len(voters) > 0 || l != (api.Lease{})) {
			t.Errorf("%d: Elect = %v, %v, %d", i, voters, l, elected)
		}
	}
	if got, err := lease.Propose([]api.Voter{{Fence: -7}, {Fence: -4}}, yes[:2], 0, 0, 1); err != api.OK || got.Fence != -3 {
		t.Errorf("Propose = %v, %d", got, err)
	}
}

// P38.1: random voters, against the definitions.
func TestRandom(t *testing.T) {
	m := maker{rand.New(rand.NewSource(1))}
	agreed, count := 0, map[api.Errno]int{}
	for range 20000 {
		v := m.voter()
		l, now := m.lease()
		next, agrees := lease.Vote(v, l, now)
		want, wantAgrees := refVote(v, l, now)
		if next != want || agrees != wantAgrees {
			t.Fatalf("Vote(%v, %v, %d) = %v, %v, want %v, %v", v, l, now, next, agrees, want, wantAgrees)
		}
		if agrees {
			agreed++
		}
		voters := []api.Voter{m.voter(), m.voter(), m.voter()}[:2+m.Intn(2)]
		answer, hub, length := m.answers(len(voters)), m.Intn(len(voters)), 1+m.Intn(50)
		gotVoters, got, err := lease.Elect(voters, answer, hub, now, length)
		wantVoters, wantLease, wantErr := refElect(voters, answer, hub, now, length)
		if err != wantErr || got != wantLease || !slices.Equal(gotVoters, wantVoters) {
			t.Fatalf("Elect(%v, %v, %d, %d, %d) = %v, %v, %d, want %v, %v, %d", voters, answer, hub, now, length, gotVoters, got, err, wantVoters, wantLease, wantErr)
		}
		count[err]++
		if l != (api.Lease{}) && lease.Holds(got, now) != (err == api.OK) {
			t.Fatalf("Holds(%v, %d) after %d", got, now, err)
		}
	}
	if agreed < 2000 || count[api.OK] < 2000 || count[api.ErrLease] < 2000 || count[api.ErrArg] < 50 || count[api.ErrLimit] < 50 {
		t.Errorf("the test covers too little: %d, %v", agreed, count)
	}
}

// P3: equal arguments yield equal results, arguments stay as they are, and results share no memory.
func TestIndependence(t *testing.T) {
	m := maker{rand.New(rand.NewSource(2))}
	for range 500 {
		l := []api.Voter{m.voter(), m.voter(), m.voter()}
		answer := m.answers(3)
		before := fmt.Sprint(l, answer)
		first, got, err := lease.Elect(l, answer, 1, 60, 30)
		text := fmt.Sprint(first, got, err)
		for i := range first {
			first[i].Fence = 99
		}
		second, got, err := lease.Elect(l, answer, 1, 60, 30)
		if fmt.Sprint(second, got, err) != text || fmt.Sprint(l, answer) != before {
			t.Fatalf("%s: %s and %v", before, text, second)
		}
	}
}
