package units_test

import (
	"math/big"
	"math/rand"

	"domicile/api"
)

// refUnit is a unit as the table of the chapter shows it.
type refUnit struct {
	name        string
	dim, factor int
}

// refUnits is the table of the chapter.
var refUnits = []refUnit{
	{"", api.DimNumber, 1}, {"C", api.DimTemperature, 1},
	{"s", api.DimTime, 1}, {"min", api.DimTime, 60}, {"h", api.DimTime, 3600},
	{"W", api.DimPower, 1}, {"kW", api.DimPower, 1000},
	{"Wh", api.DimEnergy, 1}, {"kWh", api.DimEnergy, 1000},
	{"lx", api.DimLight, 1}, {"%", api.DimShare, 1},
}

// wrongNames are names of no unit.
var wrongNames = []string{" ", "c", "S", "kw", "KW", "Kwh", "kwh", "wh", "sec", "m", "lux", "%%", "°C", "s ", "\x00", "mins"}

const (
	refNumber = 1000000000
	refValue  = 1000000000000000
)

// refBase returns what Base has to return.
func refBase(q api.Quantity) (int, int, api.Errno) {
	for _, u := range refUnits {
		if u.name == q.Unit {
			if q.Tenths < -refNumber || q.Tenths > refNumber {
				return 0, 0, api.ErrRange
			}
			return u.dim, q.Tenths * u.factor, api.OK
		}
	}
	return 0, 0, api.ErrUnit
}

// refCanonical returns what Canonical has to return.
func refCanonical(dim, value int) (api.Quantity, api.Errno) {
	best := refUnit{factor: 0}
	for _, u := range refUnits {
		if u.dim == dim && (u.factor == 1 || value != 0 && value%u.factor == 0 && u.factor > best.factor) {
			best = u
		}
	}
	if best.factor == 0 {
		return api.Quantity{}, api.ErrArg
	}
	if value < -refValue || value > refValue {
		return api.Quantity{}, api.ErrRange
	}
	q := api.Quantity{Tenths: value / best.factor, Unit: best.name}
	if q.Tenths < -refNumber || q.Tenths > refNumber {
		return api.Quantity{}, api.ErrRange
	}
	return q, api.OK
}

// refBoth returns the values of two quantities, their dimension, and the error that Compare and Add share.
func refBoth(a, b api.Quantity) (int, int, int, api.Errno) {
	da, va, err := refBase(a)
	if err != api.OK {
		return 0, 0, 0, err
	}
	db, vb, err := refBase(b)
	if err != api.OK {
		return 0, 0, 0, err
	}
	if da != db {
		return 0, 0, 0, api.ErrType
	}
	return va, vb, da, api.OK
}

// refCompare returns what Compare has to return.
func refCompare(a, b api.Quantity) (int, api.Errno) {
	va, vb, _, err := refBoth(a, b)
	return big.NewInt(int64(va)).Cmp(big.NewInt(int64(vb))), err
}

// refAdd returns what Add has to return.
func refAdd(a, b api.Quantity) (api.Quantity, api.Errno) {
	va, vb, dim, err := refBoth(a, b)
	if err != api.OK {
		return api.Quantity{}, err
	}
	return refCanonical(dim, va+vb)
}

// refSeconds returns what Seconds has to return.
func refSeconds(q api.Quantity) (int, api.Errno) {
	dim, value, err := refBase(q)
	if err != api.OK {
		return 0, err
	}
	if dim != api.DimTime {
		return 0, api.ErrType
	}
	if value%10 != 0 {
		return 0, api.ErrRange
	}
	return value / 10, api.OK
}

// refEnergy returns what Energy has to return.
func refEnergy(power, time api.Quantity) (api.Quantity, api.Errno) {
	dp, vp, err := refBase(power)
	if err != api.OK {
		return api.Quantity{}, err
	}
	dt, vt, err := refBase(time)
	if err != api.OK {
		return api.Quantity{}, err
	}
	if dp != api.DimPower || dt != api.DimTime {
		return api.Quantity{}, api.ErrType
	}
	if vp < -refNumber || vp > refNumber || vt < 0 || vt > refNumber {
		return api.Quantity{}, api.ErrRange
	}
	product := new(big.Int).Mul(big.NewInt(int64(vp)), big.NewInt(int64(vt)))
	// Div of package big rounds towards minus infinity if the divisor is positive.
	return refCanonical(api.DimEnergy, int(product.Div(product, big.NewInt(36000)).Int64()))
}

// chosenNumbers are numbers of tenths at and around the bounds, and some that factors divide.
var chosenNumbers = []int{
	0, 1, -1, 5, -5, 9, 10, -10, 11, 15, 36, 59, 60, 61, -60, 100, 360, 600, 900, 901, 1000, -1000, 3599, 3600, 3601, -3600, 35999, 36000, 36001, 7200, 216000,
	999999, 1000000, 277777, 277778, 16666666, 16666667, 999999999, 1000000000, 1000000001, -999999999, -1000000000, -1000000001,
	1 << 31, -1 << 31, 3600000000000, 3600000000001, 1 << 40, 1000000000000000, 1000000000000001, -1000000000000000, -1000000000000001,
	1<<63 - 1, -1 << 63, 1 << 62, -1 << 62, 9223372036854774000, -9223372036854774000,
}

// chosenQuantities are quantities of all units and of none, with the chosen numbers.
func chosenQuantities() []api.Quantity {
	var list []api.Quantity
	for _, n := range chosenNumbers {
		for _, u := range refUnits {
			list = append(list, api.Quantity{Tenths: n, Unit: u.name})
		}
		list = append(list, api.Quantity{Tenths: n, Unit: wrongNames[len(list)%len(wrongNames)]})
	}
	return list
}

// randomRight returns a right quantity of a dimension.
func randomRight(r *rand.Rand, dim int) api.Quantity {
	for {
		u := refUnits[r.Intn(len(refUnits))]
		if u.dim == dim {
			return api.Quantity{Tenths: randomTenths(r), Unit: u.name}
		}
	}
}

// randomTenths returns tenths that are in range: small ones, great ones, and multiples of factors.
func randomTenths(r *rand.Rand) int {
	switch r.Intn(4) {
	case 0:
		return r.Intn(41) - 20
	case 1:
		return (r.Intn(2001) - 1000) * []int{10, 60, 600, 1000, 3600}[r.Intn(5)]
	case 2:
		return (r.Intn(2)*2 - 1) * (refNumber - r.Intn(4))
	}
	return r.Intn(2*refNumber+1) - refNumber
}

// dims has all dimensions.
var dims = []int{api.DimNumber, api.DimTemperature, api.DimTime, api.DimPower, api.DimEnergy, api.DimLight, api.DimShare}
