package typing

import "domicile/api"

const (
	// modeVar is the index of the variable mode, quietVar that of quiet, firstPerson that of the first person.
	modeVar = iota
	quietVar
	firstPerson
)

// addVariables adds all variables to the model.
func (c *checker) addVariables() {
	c.refs = map[api.Ref]int{}
	c.addInput("mode", false, c.Modes...)
	c.addInput("quiet", false, "off", "on")
	for _, name := range c.Persons {
		c.addInput(name, true, "away", "here")
	}
	for i, d := range c.Devices {
		kind, _ := c.find(api.OfKind, d.Kind)
		for n, a := range c.Kinds[kind].Attrs {
			c.addAttr(i, n, a)
		}
	}
}

// addInput adds a variable that belongs to no device. A person can have the name of a variable before; references mean that one.
func (c *checker) addInput(name string, private bool, names ...string) {
	r := api.Ref{Attr: name}
	if _, ok := c.refs[r]; !ok {
		c.refs[r] = len(c.model.Vars)
	}
	c.addVariable(api.Var{Name: name, Sensor: true, Private: private, Device: -1, Attr: -1}, values{names: names})
}

// addAttr adds the variable of an attribute of a device. The attribute has no error.
func (c *checker) addAttr(device, index int, a api.Attr) {
	list, _ := valuesOf(a)
	start, _ := list.index(a.Start)
	fallback, _ := list.index(a.Fallback)
	name := c.Devices[device].Name
	// References with an empty device mean no attribute, even if a device has this name.
	if name != "" {
		c.refs[api.Ref{Device: name, Attr: a.Name}] = len(c.model.Vars)
	}
	c.addVariable(api.Var{
		Name: name + "." + a.Name, Start: start, Fallback: fallback,
		Sensor: a.Sensor, Private: a.Private, Shown: a.Shown, Device: device, Attr: index,
	}, list)
}

// addVariable adds a variable with its values.
func (c *checker) addVariable(v api.Var, list values) {
	v.Size = list.size()
	c.model.Vars = append(c.model.Vars, v)
	c.values = append(c.values, list)
}
