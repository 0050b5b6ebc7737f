package units_test

import (
	"math/rand"
	"testing"

	"domicile/api"
	"domicile/units"
)

// q returns a quantity.
func q(tenths int, unit string) api.Quantity { return api.Quantity{Tenths: tenths, Unit: unit} }

// zero is the quantity that is returned with an error.
var zero api.Quantity

// P2.1: the table of units, and the errors of Base in their order.
func TestBase(t *testing.T) {
	for _, test := range []struct {
		q          api.Quantity
		dim, value int
		err        api.Errno
	}{
		{q(15, "min"), api.DimTime, 900, api.OK},
		{q(7, ""), api.DimNumber, 7, api.OK},
		{q(215, "C"), api.DimTemperature, 215, api.OK},
		{q(-5, "C"), api.DimTemperature, -5, api.OK},
		{q(10, "s"), api.DimTime, 10, api.OK},
		{q(10, "h"), api.DimTime, 36000, api.OK},
		{q(10, "W"), api.DimPower, 10, api.OK},
		{q(10, "kW"), api.DimPower, 10000, api.OK},
		{q(10, "Wh"), api.DimEnergy, 10, api.OK},
		{q(10, "kWh"), api.DimEnergy, 10000, api.OK},
		{q(10, "lx"), api.DimLight, 10, api.OK},
		{q(10, "%"), api.DimShare, 10, api.OK},
		{q(1000000000, "h"), api.DimTime, 3600000000000, api.OK},
		{q(-1000000000, "h"), api.DimTime, -3600000000000, api.OK},
		{q(1000000001, "s"), 0, 0, api.ErrRange},
		{q(-1000000001, ""), 0, 0, api.ErrRange},
		{q(10, "sec"), 0, 0, api.ErrUnit},
		{q(1000000001, "sec"), 0, 0, api.ErrUnit},
	} {
		if dim, value, err := units.Base(test.q); dim != test.dim || value != test.value || err != test.err {
			t.Errorf("Base(%v) = %v, %v, %v, want %v, %v, %v", test.q, dim, value, err, test.dim, test.value, test.err)
		}
	}
	for _, name := range wrongNames {
		if dim, value, err := units.Base(q(10, name)); dim != 0 || value != 0 || err != api.ErrUnit {
			t.Errorf("Base of the unit %q: %v, %v, %v", name, dim, value, err)
		}
	}
}

// P2.1: Compare, and its errors in their order.
func TestCompare(t *testing.T) {
	for _, test := range []struct {
		a, b api.Quantity
		want int
		err  api.Errno
	}{
		{q(900, "s"), q(15, "min"), 0, api.OK},
		{q(10, "h"), q(600, "min"), 0, api.OK},
		{q(10, "h"), q(599, "min"), 1, api.OK},
		{q(9, "kW"), q(9001, "W"), -1, api.OK},
		{q(0, "kW"), q(0, "W"), 0, api.OK},
		{q(-1, "C"), q(1, "C"), -1, api.OK},
		{q(1, "C"), q(1, "%"), 0, api.ErrType},
		{q(1, ""), q(1, "lx"), 0, api.ErrType},
		{q(1, "Wh"), q(1, "W"), 0, api.ErrType},
		{q(1, "?"), q(1000000001, "W"), 0, api.ErrUnit},
		{q(1000000001, "W"), q(1, "?"), 0, api.ErrRange},
		{q(1, "C"), q(1, "?"), 0, api.ErrUnit},
		{q(1, "C"), q(1000000001, "W"), 0, api.ErrRange},
	} {
		if got, err := units.Compare(test.a, test.b); got != test.want || err != test.err {
			t.Errorf("Compare(%v, %v) = %v, %v, want %v, %v", test.a, test.b, got, err, test.want, test.err)
		}
	}
}

// P2.1: Add, and its errors in their order.
func TestAdd(t *testing.T) {
	for _, test := range []struct {
		a, b, want api.Quantity
		err        api.Errno
	}{
		{q(300, "min"), q(300, "min"), q(10, "h"), api.OK},
		{q(1, "s"), q(10, "min"), q(601, "s"), api.OK},
		{q(5, "kW"), q(-5000, "W"), q(0, "W"), api.OK},
		{q(0, "kWh"), q(0, "kWh"), q(0, "Wh"), api.OK},
		{q(500, "W"), q(500, "W"), q(1, "kW"), api.OK},
		{q(1000000000, "h"), q(-1000000000, "h"), q(0, "s"), api.OK},
		{q(1000000000, "C"), q(1, "C"), zero, api.ErrRange},
		{q(-1000000000, "%"), q(-1, "%"), zero, api.ErrRange},
		{q(1000000000, "h"), q(1000000000, "h"), zero, api.ErrRange},
		{q(1000000000, "h"), q(1, "s"), zero, api.ErrRange},
		{q(1000000000, "s"), q(1000000000, "s"), zero, api.ErrRange},
		{q(1, "C"), q(1, "W"), zero, api.ErrType},
		{q(1000000001, "C"), q(1, "?"), zero, api.ErrRange},
		{q(1, "?"), q(1000000001, "C"), zero, api.ErrUnit},
		{q(1, "C"), q(1000000001, "W"), zero, api.ErrRange},
	} {
		if got, err := units.Add(test.a, test.b); got != test.want || err != test.err {
			t.Errorf("Add(%v, %v) = %v, %v, want %v, %v", test.a, test.b, got, err, test.want, test.err)
		}
	}
}

// P2.1: Canonical, and its errors in their order.
func TestCanonical(t *testing.T) {
	for _, test := range []struct {
		dim, value int
		want       api.Quantity
		err        api.Errno
	}{
		{api.DimTime, 900, q(15, "min"), api.OK},
		{api.DimTime, 901, q(901, "s"), api.OK},
		{api.DimTime, 3600, q(1, "h"), api.OK},
		{api.DimTime, -3600, q(-1, "h"), api.OK},
		{api.DimTime, -60, q(-1, "min"), api.OK},
		{api.DimTime, 0, q(0, "s"), api.OK},
		{api.DimPower, 0, q(0, "W"), api.OK},
		{api.DimEnergy, 0, q(0, "Wh"), api.OK},
		{api.DimNumber, 0, zero, api.OK},
		{api.DimNumber, 1000, q(1000, ""), api.OK},
		{api.DimPower, 1000, q(1, "kW"), api.OK},
		{api.DimPower, 1500, q(1500, "W"), api.OK},
		{api.DimTime, 3600000000000, q(1000000000, "h"), api.OK},
		{api.DimTime, 3600000003600, zero, api.ErrRange},
		{api.DimTime, 1000000001, zero, api.ErrRange},
		{api.DimShare, 1000000000, q(1000000000, "%"), api.OK},
		{api.DimShare, 1000000001, zero, api.ErrRange},
		{api.DimShare, -1000000001, zero, api.ErrRange},
		{api.DimEnergy, 1000000000000, q(1000000000, "kWh"), api.OK},
		{api.DimEnergy, 1000000001000, zero, api.ErrRange},
		{api.DimTime, 1000000000000000, zero, api.ErrRange},
		{api.DimTime, 1000000000000001, zero, api.ErrRange},
		{api.DimTime, -1 << 63, zero, api.ErrRange},
		{0, 0, zero, api.ErrArg},
		{8, 0, zero, api.ErrArg},
		{-1, 1 << 62, zero, api.ErrArg},
		{1<<63 - 1, -1 << 63, zero, api.ErrArg},
	} {
		if got, err := units.Canonical(test.dim, test.value); got != test.want || err != test.err {
			t.Errorf("Canonical(%v, %v) = %v, %v, want %v, %v", test.dim, test.value, got, err, test.want, test.err)
		}
	}
}

// P2.1: Seconds, and its errors in their order.
func TestSeconds(t *testing.T) {
	for _, test := range []struct {
		q    api.Quantity
		want int
		err  api.Errno
	}{
		{q(1, "min"), 6, api.OK},
		{q(1, "h"), 360, api.OK},
		{q(50, "s"), 5, api.OK},
		{q(-50, "s"), -5, api.OK},
		{q(0, "h"), 0, api.OK},
		{q(1000000000, "h"), 360000000000, api.OK},
		{q(5, "s"), 0, api.ErrRange},
		{q(-5, "s"), 0, api.ErrRange},
		{q(5, "C"), 0, api.ErrType},
		{q(50, ""), 0, api.ErrType},
		{q(5, "sec"), 0, api.ErrUnit},
		{q(1000000001, "C"), 0, api.ErrRange},
		{q(1000000001, "sec"), 0, api.ErrUnit},
	} {
		if got, err := units.Seconds(test.q); got != test.want || err != test.err {
			t.Errorf("Seconds(%v) = %v, %v, want %v, %v", test.q, got, err, test.want, test.err)
		}
	}
}

// P2.1: Energy, and its errors in their order.
func TestEnergy(t *testing.T) {
	for _, test := range []struct {
		power, time, want api.Quantity
		err               api.Errno
	}{
		{q(10, "W"), q(10, "s"), q(0, "Wh"), api.OK},
		{q(15, "kW"), q(200, "min"), q(5, "kWh"), api.OK},
		{q(10, "kW"), q(10, "h"), q(10, "kWh"), api.OK},
		{q(-10, "W"), q(10, "s"), q(-1, "Wh"), api.OK},
		{q(-36000, "W"), q(1, "s"), q(-1, "Wh"), api.OK},
		{q(-36001, "W"), q(1, "s"), q(-2, "Wh"), api.OK},
		{q(36000, "W"), q(1, "s"), q(1, "Wh"), api.OK},
		{q(35999, "W"), q(1, "s"), q(0, "Wh"), api.OK},
		{q(10, "W"), q(0, "h"), q(0, "Wh"), api.OK},
		{q(1000000, "kW"), q(36000, "s"), q(1000000, "kWh"), api.OK},
		{q(1000000000, "W"), q(1000000000, "s"), zero, api.ErrRange},
		{q(1000001, "kW"), q(1, "s"), zero, api.ErrRange},
		{q(-1000001, "kW"), q(1, "s"), zero, api.ErrRange},
		{q(1, "W"), q(277778, "h"), zero, api.ErrRange},
		{q(1, "W"), q(-1, "s"), zero, api.ErrRange},
		{q(1, "s"), q(1, "W"), zero, api.ErrType},
		{q(1, "W"), q(1, "W"), zero, api.ErrType},
		{q(1000001, "kW"), q(1, "C"), zero, api.ErrType},
		{q(1000000001, "W"), q(1, "?"), zero, api.ErrRange},
		{q(1, "?"), q(1000000001, "s"), zero, api.ErrUnit},
		{q(1, "C"), q(1, "?"), zero, api.ErrUnit},
	} {
		if got, err := units.Energy(test.power, test.time); got != test.want || err != test.err {
			t.Errorf("Energy(%v, %v) = %v, %v, want %v, %v", test.power, test.time, got, err, test.want, test.err)
		}
	}
}

// P2.1 and P1: all calls do what the reference says, for quantities at all bounds.
func TestChosen(t *testing.T) {
	list := chosenQuantities()
	for _, a := range list {
		wantOne(t, a)
		for _, b := range list {
			wantTwo(t, a, b)
		}
	}
	for dim := -1; dim <= 9; dim++ {
		for _, value := range chosenNumbers {
			wantCanonical(t, dim, value)
		}
	}
}

// P2.1: all calls do what the reference says, for random quantities.
func TestRandom(t *testing.T) {
	r := rand.New(rand.NewSource(1))
	for range 50000 {
		dim := dims[r.Intn(len(dims))]
		a, b := randomRight(r, dim), randomRight(r, dim)
		wantOne(t, a)
		wantTwo(t, a, b)
		wantTwo(t, randomRight(r, api.DimPower), randomRight(r, api.DimTime))
		wantCanonical(t, dim, r.Intn(100)*[]int{1, 60, 1000, 3600, 36000000, 3600000000}[r.Intn(6)]*(r.Intn(3)-1))
		wantCanonical(t, dim, int(r.Uint64()))
	}
}

// wantOne checks the calls with one quantity against the reference.
func wantOne(t *testing.T, a api.Quantity) {
	t.Helper()
	dim, value, err := units.Base(a)
	if wantDim, wantValue, wantErr := refBase(a); dim != wantDim || value != wantValue || err != wantErr {
		t.Errorf("Base(%v) = %v, %v, %v, want %v, %v, %v", a, dim, value, err, wantDim, wantValue, wantErr)
	}
	seconds, err := units.Seconds(a)
	if want, wantErr := refSeconds(a); seconds != want || err != wantErr {
		t.Errorf("Seconds(%v) = %v, %v, want %v, %v", a, seconds, err, want, wantErr)
	}
}

// wantTwo checks the calls with two quantities against the reference.
func wantTwo(t *testing.T, a, b api.Quantity) {
	t.Helper()
	order, err := units.Compare(a, b)
	if want, wantErr := refCompare(a, b); order != want || err != wantErr {
		t.Errorf("Compare(%v, %v) = %v, %v, want %v, %v", a, b, order, err, want, wantErr)
	}
	sum, err := units.Add(a, b)
	if want, wantErr := refAdd(a, b); sum != want || err != wantErr {
		t.Errorf("Add(%v, %v) = %v, %v, want %v, %v", a, b, sum, err, want, wantErr)
	}
	energy, err := units.Energy(a, b)
	if want, wantErr := refEnergy(a, b); energy != want || err != wantErr {
		t.Errorf("Energy(%v, %v) = %v, %v, want %v, %v", a, b, energy, err, want, wantErr)
	}
}

// wantCanonical checks Canonical against the reference.
func wantCanonical(t *testing.T, dim, value int) {
	t.Helper()
	got, err := units.Canonical(dim, value)
	if want, wantErr := refCanonical(dim, value); got != want || err != wantErr {
		t.Errorf("Canonical(%v, %v) = %v, %v, want %v, %v", dim, value, got, err, want, wantErr)
	}
}
