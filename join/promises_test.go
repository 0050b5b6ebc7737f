package join_test

import (
	"math/rand"
	"slices"
	"testing"

	"domicile/api"
	"domicile/crypto"
	"domicile/join"
)

// talk has the messages of a join, and the sides.
type talk struct {
	device, hub, met, joined, ended api.Joiner
	first, second, third            api.Hello
	ok                              bool
}

// between returns the join of a device and a hub.
func between(deviceCode, deviceSecret, hubCode, hubSecret int) talk {
	var c talk
	var errs [3]api.Errno
	c.device, c.first = join.Device(deviceCode, deviceSecret)
	c.hub = join.Hub(hubCode, hubSecret)
	c.met, c.second, errs[0] = join.Receive(c.hub, c.first)
	c.joined, c.third, errs[1] = join.Receive(c.device, c.second)
	c.ended, _, errs[2] = join.Receive(c.met, c.third)
	c.ok = errs == [3]api.Errno{}
	return c
}

func acceptable(public int) bool { return public >= 2 && public <= p-2 }

// P30.2: with the same code both are done, with the same key, unless a public number is not acceptable.
func TestJoining(t *testing.T) {
	m := maker{rand.New(rand.NewSource(302))}
	refused := 0
	for range 2000 {
		code := m.number()
		c := between(code, m.number(), code, m.number())
		if c.ok != (acceptable(c.device.Mine) && acceptable(c.hub.Mine)) {
			t.Fatalf("%+v", c)
		}
		if !c.ok {
			refused++
			continue
		}
		if !c.joined.Done || !c.ended.Done || c.joined.Key != c.ended.Key || c.joined.Key != crypto.Shared(c.device.Secret, c.hub.Mine) {
			t.Fatalf("%+v", c)
		}
	}
	if refused < 50 || refused > 1900 {
		t.Errorf("%d joins were refused", refused)
	}
}

// P30.3: with another code, the device refuses the message of the hub.
func TestCodes(t *testing.T) {
	m := maker{rand.New(rand.NewSource(303))}
	same := 0
	for range 2000 {
		a, b := m.number(), m.number()
		if m.chance(10) && a < 1<<60 {
			b = a + p
		}
		c := between(a, 3+m.Intn(1000), b, 3+m.Intn(1000))
		_, _, err := join.Receive(c.device, c.second)
		if (a%p+p)%p == (b%p+p)%p {
			if same++; err != api.OK {
				t.Fatalf("codes %d and %d: %d", a, b, err)
			}
		} else if err != api.ErrProof {
			t.Fatalf("codes %d and %d: %d", a, b, err)
		}
	}
	if same < 50 {
		t.Errorf("only %d codes are the same", same)
	}
}

// P30.4: changed proofs are refused, and changed public numbers, unless two lists have the same digest.
func TestChangedMessages(t *testing.T) {
	m := maker{rand.New(rand.NewSource(304))}
	for range 2000 {
		code := m.number()
		c := between(code, 3+m.Intn(100000), code, 3+m.Intn(100000))
		if !c.ok {
			t.Fatalf("%+v", c)
		}
		other := m.number()
		if other != c.second.Proof {
			wantError(t, c.device, api.Hello{Step: 2, Public: c.second.Public, Proof: other}, api.ErrProof)
		}
		if other != c.third.Proof {
			wantError(t, c.met, api.Hello{Step: 3, Proof: other}, api.ErrProof)
		}
		if !acceptable(other) || other == c.second.Public || other == c.first.Public {
			continue
		}
		if _, _, err := join.Receive(c.device, api.Hello{Step: 2, Public: other, Proof: c.second.Proof}); err == api.OK {
			a := []int{code, 4, 1, c.device.Mine, c.hub.Mine, crypto.Shared(c.device.Secret, c.hub.Mine)}
			b := []int{code, 4, 1, c.device.Mine, other, crypto.Shared(c.device.Secret, other)}
			if slices.Equal(a, b) || crypto.Sum(a) != crypto.Sum(b) {
				t.Fatalf("%+v with the public number %d is accepted", c, other)
			}
		} else if err != api.ErrProof {
			t.Fatalf("%+v with the public number %d: %d", c, other, err)
		}
		met, second, _ := join.Receive(c.hub, api.Hello{Step: 1, Public: other})
		wantError(t, c.device, second, api.ErrProof)
		wantError(t, met, c.third, api.ErrProof)
	}
}

// P30.5, P30.7: results are well-formed; a side that is done accepts nothing; the key is there exactly if it is done.
func TestSides(t *testing.T) {
	m := maker{rand.New(rand.NewSource(305))}
	done := 0
	for range 5000 {
		j := m.side()
		k, _, err := join.Receive(j, m.hello(j))
		if err != api.OK {
			continue
		}
		if !refValid(k) || k.Done != (k.Key != 0) || j.Done {
			t.Fatalf("%v becomes %v", j, k)
		}
		if !k.Done {
			continue
		}
		done++
		for range 5 {
			h := m.hello(k)
			wantError(t, k, h, api.ErrState)
		}
	}
	if done < 200 {
		t.Errorf("only %d sides are done", done)
	}
}

// P30.6: a proof of one side is not accepted from the other one.
func TestDirection(t *testing.T) {
	m := maker{rand.New(rand.NewSource(306))}
	for range 1000 {
		code := m.number()
		c := between(code, 3+m.Intn(100000), code, 3+m.Intn(100000))
		wantError(t, c.met, api.Hello{Step: 3, Proof: c.second.Proof}, api.ErrProof)
		wantError(t, c.device, api.Hello{Step: 2, Public: c.second.Public, Proof: c.third.Proof}, api.ErrProof)
	}
}

// P3: equal arguments yield equal results.
func TestIndependence(t *testing.T) {
	m := maker{rand.New(rand.NewSource(307))}
	for range 1000 {
		j := m.side()
		h := m.hello(j)
		a, b, c := join.Receive(j, h)
		join.Receive(m.side(), h)
		if x, y, z := join.Receive(j, h); a != x || b != y || c != z {
			t.Fatalf("Receive(%v, %v) differs", j, h)
		}
	}
}
