package units_test

import (
	"math/rand"
	"testing"

	"domicile/api"
	"domicile/units"
)

// value returns the value of a quantity that is right.
func value(t *testing.T, a api.Quantity) int {
	t.Helper()
	_, v, err := units.Base(a)
	if err != api.OK {
		t.Fatalf("Base(%v): %v", a, err)
	}
	return v
}

// compare returns the order of two right quantities of one dimension.
func compare(t *testing.T, a, b api.Quantity) int {
	t.Helper()
	order, err := units.Compare(a, b)
	if err != api.OK {
		t.Fatalf("Compare(%v, %v): %v", a, b, err)
	}
	return order
}

// triples calls a function with random right quantities of one dimension, many of them equal or close to each other.
func triples(each func(dim int, a, b, c api.Quantity)) {
	r := rand.New(rand.NewSource(2))
	for range 30000 {
		dim := dims[r.Intn(len(dims))]
		a, b, c := randomRight(r, dim), randomRight(r, dim), randomRight(r, dim)
		if same, err := refCanonical(dim, first(refValueOf(a))); err == api.OK && r.Intn(3) == 0 {
			b = same
		}
		each(dim, a, b, c)
	}
}

// refValueOf returns the value of a quantity by the reference.
func refValueOf(a api.Quantity) (int, api.Errno) {
	_, v, err := refBase(a)
	return v, err
}

// first returns the first of two results.
func first(v int, _ api.Errno) int { return v }

// P2.2: Base is linear, with one factor for each unit.
func TestValues(t *testing.T) {
	r := rand.New(rand.NewSource(3))
	for _, u := range refUnits {
		factor := value(t, q(1, u.name))
		for range 2000 {
			n, m := randomTenths(r)/2, randomTenths(r)/2
			if value(t, q(n, u.name))+value(t, q(m, u.name)) != value(t, q(n+m, u.name)) {
				t.Errorf("Base of %v and %v %q is not linear", n, m, u.name)
			}
			if value(t, q(n, u.name)) != factor*n {
				t.Errorf("the factor of %v %q differs", n, u.name)
			}
		}
	}
}

// P2.3: Compare is an order of each dimension.
func TestOrder(t *testing.T) {
	triples(func(_ int, a, b, c api.Quantity) {
		ab, bc, ac := compare(t, a, b), compare(t, b, c), compare(t, a, c)
		if ab != -compare(t, b, a) || compare(t, a, a) != 0 {
			t.Errorf("Compare of %v and %v is not antisymmetric", a, b)
		}
		if ab <= 0 && bc <= 0 && ac > 0 || ab >= 0 && bc >= 0 && ac < 0 {
			t.Errorf("Compare of %v, %v and %v is not transitive", a, b, c)
		}
		if (ab == 0) != (value(t, a) == value(t, b)) {
			t.Errorf("Compare(%v, %v) = %v", a, b, ab)
		}
	})
}

// P2.4: a canonical quantity has its dimension and value, and is canonical again; equal quantities have the same one.
func TestCanonicalQuantities(t *testing.T) {
	triples(func(dim int, a, b, _ api.Quantity) {
		x, errX := units.Canonical(dim, value(t, a))
		y, errY := units.Canonical(dim, value(t, b))
		if errX == api.OK {
			d, v, err := units.Base(x)
			again, errAgain := units.Canonical(d, v)
			if d != dim || v != value(t, a) || err != api.OK || again != x || errAgain != api.OK {
				t.Errorf("the canonical quantity of %v is %v, and of that %v", a, x, again)
			}
		}
		if errX == api.OK && errY == api.OK && (compare(t, a, b) == 0) != (x == y) {
			t.Errorf("%v and %v have the canonical quantities %v and %v", a, b, x, y)
		}
	})
}

// P2.5: Add is commutative and associative and keeps the order.
func TestSums(t *testing.T) {
	triples(func(_ int, a, b, c api.Quantity) {
		ab, err := units.Add(a, b)
		if ba, errBack := units.Add(b, a); ba != ab || errBack != err {
			t.Errorf("Add of %v and %v is not commutative", a, b)
		}
		bc, errBC := units.Add(b, c)
		if err == api.OK && errBC == api.OK {
			left, errLeft := units.Add(ab, c)
			right, errRight := units.Add(a, bc)
			if errLeft == api.OK && errRight == api.OK && left != right {
				t.Errorf("Add of %v, %v and %v is not associative", a, b, c)
			}
		}
		if ac, errAC := units.Add(a, c); errAC == api.OK && errBC == api.OK && compare(t, ac, bc) != compare(t, a, b) {
			t.Errorf("adding %v to %v and %v changes their order", c, a, b)
		}
	})
}

// P2.6: the seconds of a sum are the sum of the seconds.
func TestSecondsOfSums(t *testing.T) {
	r := rand.New(rand.NewSource(4))
	for range 20000 {
		a, b := randomRight(r, api.DimTime), randomRight(r, api.DimTime)
		x, errX := units.Seconds(a)
		y, errY := units.Seconds(b)
		sum, errSum := units.Add(a, b)
		if errX != api.OK || errY != api.OK || errSum != api.OK {
			continue
		}
		if got, err := units.Seconds(sum); got != x+y || err != api.OK {
			t.Errorf("%v and %v are %v and %v seconds, the sum %v", a, b, x, y, got)
		}
	}
	for _, test := range [][2]api.Quantity{{q(10, "min"), q(600, "s")}, {q(10, "h"), q(600, "min")}} {
		x, errX := units.Seconds(test[0])
		y, errY := units.Seconds(test[1])
		if x != y || errX != api.OK || errY != api.OK {
			t.Errorf("%v is not %v", test[0], test[1])
		}
	}
}

// P2.7: energy grows with power and with time; that of two parts of a time is that of the whole, up to a tenth of Wh.
func TestEnergies(t *testing.T) {
	energy := func(power, time int) (int, bool) {
		e, err := units.Energy(q(power, "W"), q(time, "s"))
		if err != api.OK {
			return 0, false
		}
		return value(t, e), true
	}
	r := rand.New(rand.NewSource(5))
	for range 30000 {
		power, time, more := r.Intn(1<<r.Intn(24)), r.Intn(1<<r.Intn(24)), r.Intn(1<<r.Intn(20))
		e, ok := energy(power, time)
		stronger, okStronger := energy(power+more, time)
		if ok && okStronger && stronger < e {
			t.Errorf("%v needs less in %v than %v", power+more, time, power)
		}
		part, okPart := energy(power, more)
		whole, okWhole := energy(power, time+more)
		if ok && okWhole && whole < e {
			t.Errorf("%v needs less in %v than in %v", power, time+more, time)
		}
		if ok && okPart && okWhole && (whole-e-part < 0 || whole-e-part > 1) {
			t.Errorf("%v in %v and %v: %v + %v, and in both %v", power, time, more, e, part, whole)
		}
	}
}

// P3: equal arguments have equal results.
func TestIndependence(t *testing.T) {
	for _, a := range chosenQuantities() {
		dim, v, err := units.Base(a)
		sum, errSum := units.Add(a, a)
		againDim, again, errAgain := units.Base(a)
		sumAgain, errSumAgain := units.Add(a, a)
		if dim != againDim || v != again || err != errAgain || sum != sumAgain || errSum != errSumAgain {
			t.Errorf("%v has different results", a)
		}
	}
}
