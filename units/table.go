package units

import "domicile/api"

// unit is a unit of quantities: the factor says how many of the base unit of its dimension it is.
type unit struct {
	name   string
	dim    int
	factor int
}

// unitCount is the number of units.
const unitCount = 11

// allUnits has the units of each dimension together, those with greater factors first: the last one of a dimension is its base unit.
var allUnits = [unitCount]unit{
	{"", api.DimNumber, 1},
	{"C", api.DimTemperature, 1},
	{"h", api.DimTime, 3600},
	{"min", api.DimTime, 60},
	{"s", api.DimTime, 1},
	{"kW", api.DimPower, 1000},
	{"W", api.DimPower, 1},
	{"kWh", api.DimEnergy, 1000},
	{"Wh", api.DimEnergy, 1},
	{"lx", api.DimLight, 1},
	{"%", api.DimShare, 1},
}

// first returns the first element that fits, and whether there is one.
func first[T any](list [unitCount]T, fits func(T) bool) (T, bool) {
	for _, element := range list {
		if fits(element) {
			return element, true
		}
	}
	var none T
	return none, false
}

// named returns the unit with a name.
func named(name string) (unit, bool) {
	return first(allUnits, func(u unit) bool { return u.name == name })
}

// base returns the base unit of a dimension.
func base(dim int) (unit, bool) {
	return first(allUnits, func(u unit) bool { return u.dim == dim && u.factor == 1 })
}

// greatest returns the unit of a dimension with the greatest factor that divides a value.
func greatest(dim, value int) (unit, bool) {
	return first(allUnits, func(u unit) bool { return u.dim == dim && value%u.factor == 0 })
}
