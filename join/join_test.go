package join_test

import (
	"math"
	"math/rand"
	"testing"

	"domicile/api"
	"domicile/crypto"
	"domicile/join"
)

// P30.1: the examples of the chapter.
func TestExamples(t *testing.T) {
	device, first := join.Device(1234, 5)
	if want := (api.Joiner{Code: 1234, Secret: 5, Mine: 16807}); device != want || first != (api.Hello{Step: 1, Public: 16807}) {
		t.Fatalf("Device = %v, %v", device, first)
	}
	hub := join.Hub(1234, 7)
	if want := (api.Joiner{Code: 1234, Secret: 7, Mine: 823543, Hub: true}); hub != want {
		t.Fatalf("Hub = %v", hub)
	}
	key := crypto.Public(35)
	met, second, err := join.Receive(hub, first)
	want := api.Hello{Step: 2, Public: 823543, Proof: crypto.Tag(1234, []int{1, 16807, 823543, key})}
	if err != api.OK || second != want || met != (api.Joiner{Code: 1234, Secret: 7, Mine: 823543, Other: 16807, Hub: true}) {
		t.Fatalf("Receive by the hub = %v, %v, %d", met, second, err)
	}
	joined, third, err := join.Receive(device, second)
	want = api.Hello{Step: 3, Proof: crypto.Tag(1234, []int{2, 16807, 823543, key})}
	if err != api.OK || third != want || joined != (api.Joiner{Code: 1234, Secret: 5, Mine: 16807, Other: 823543, Key: key, Done: true}) {
		t.Fatalf("Receive by the device = %v, %v, %d", joined, third, err)
	}
	ended, last, err := join.Receive(met, third)
	if err != api.OK || last != (api.Hello{}) || ended != (api.Joiner{Code: 1234, Secret: 7, Mine: 823543, Other: 16807, Key: key, Hub: true, Done: true}) {
		t.Fatalf("Receive by the hub = %v, %v, %d", ended, last, err)
	}
}

// wantError checks that a message is refused.
func wantError(t *testing.T, j api.Joiner, h api.Hello, want api.Errno) {
	t.Helper()
	if k, answer, err := join.Receive(j, h); err != want || k != (api.Joiner{}) || answer != (api.Hello{}) {
		t.Errorf("Receive(%v, %v) = %v, %v, %d, want %d", j, h, k, answer, err, want)
	}
}

// P30.1: the errors, and their order.
func TestErrors(t *testing.T) {
	device, first := join.Device(1234, 5)
	hub := join.Hub(1234, 7)
	met, second, _ := join.Receive(hub, first)
	joined, third, _ := join.Receive(device, second)
	ended, _, _ := join.Receive(met, third)
	for _, change := range []func(*api.Joiner){
		func(j *api.Joiner) { j.Mine++ }, func(j *api.Joiner) { j.Secret++ }, func(j *api.Joiner) { j.Key = 5 }, func(j *api.Joiner) { j.Done = !j.Done },
		func(j *api.Joiner) { j.Other = 1 }, func(j *api.Joiner) { j.Other = -1 }, func(j *api.Joiner) { j.Other = p - 1 }, func(j *api.Joiner) { j.Other = math.MinInt },
	} {
		for _, j := range []api.Joiner{device, hub, met, joined, ended} {
			change(&j)
			for step := range 5 {
				wantError(t, j, api.Hello{Step: step}, api.ErrArg)
			}
		}
	}
	done := ended
	done.Other = 0
	wantError(t, done, third, api.ErrArg)
	// What is not expected is refused before its public number is looked at.
	for _, h := range []api.Hello{{}, {Step: 1}, {Step: 3}, {Step: 4}, {Step: -1}, {Step: 1, Public: 5}, third} {
		wantError(t, device, h, api.ErrState)
		wantError(t, joined, h, api.ErrState)
		wantError(t, ended, h, api.ErrState)
	}
	wantError(t, joined, second, api.ErrState)
	wantError(t, ended, first, api.ErrState)
	for _, h := range []api.Hello{{}, {Step: 2}, second, {Step: 3}, third, {Step: 4}} {
		wantError(t, hub, h, api.ErrState)
	}
	wantError(t, met, second, api.ErrState)
	for _, public := range []int{0, 1, -1, p - 1, p, p + 5, math.MaxInt, math.MinInt} {
		wantError(t, hub, api.Hello{Step: 1, Public: public}, api.ErrArg)
		wantError(t, met, api.Hello{Step: 1, Public: public}, api.ErrArg)
		wantError(t, device, api.Hello{Step: 2, Public: public, Proof: second.Proof}, api.ErrArg)
	}
	wantError(t, device, api.Hello{Step: 2, Public: second.Public}, api.ErrProof)
	wantError(t, met, api.Hello{Step: 3, Public: 99}, api.ErrProof)
	// Fields that are not mentioned do not matter, and a first message can come again.
	if j, _, err := join.Receive(met, api.Hello{Step: 3, Public: -9, Proof: third.Proof}); err != api.OK || j != ended {
		t.Errorf("Receive = %v, %d", j, err)
	}
	for _, public := range []int{2, p - 2} {
		other, answer, err := join.Receive(met, api.Hello{Step: 1, Public: public, Proof: 7})
		if err != api.OK || other.Other != public || other.Done || answer.Step != 2 {
			t.Errorf("Receive = %v, %v, %d", other, answer, err)
		}
		wantError(t, other, third, api.ErrProof)
	}
}

// P30.1: random sides and messages, against the definitions.
func TestRandom(t *testing.T) {
	m := maker{rand.New(rand.NewSource(1))}
	count := map[api.Errno]int{}
	for range 10000 {
		j := m.side()
		h := m.hello(j)
		k, answer, err := join.Receive(j, h)
		wantSide, wantAnswer, wantErr := refReceive(j, h)
		if k != wantSide || answer != wantAnswer || err != wantErr {
			t.Fatalf("Receive(%v, %v) = %v, %v, %d, want %v, %v, %d", j, h, k, answer, err, wantSide, wantAnswer, wantErr)
		}
		count[err]++
		code, secret := m.number(), m.number()
		d, first := join.Device(code, secret)
		hub := join.Hub(code, secret)
		mine := crypto.Public(secret)
		if d != (api.Joiner{Code: code, Secret: secret, Mine: mine}) || first != (api.Hello{Step: 1, Public: mine}) || hub != (api.Joiner{Code: code, Secret: secret, Mine: mine, Hub: true}) {
			t.Fatalf("Device and Hub of %d, %d: %v, %v, %v", code, secret, d, first, hub)
		}
	}
	for _, err := range []api.Errno{api.OK, api.ErrArg, api.ErrState, api.ErrProof} {
		if count[err] < 500 {
			t.Errorf("the test covers too little: %v", count)
		}
	}
}
