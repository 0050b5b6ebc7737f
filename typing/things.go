package typing

import "domicile/api"

const (
	// maxPeople is the greatest number of persons, maxModes that of modes.
	maxPeople = api.MaxValues
	maxModes  = api.MaxValues
	// minutesOfDay is the number of minutes of a day.
	minutesOfDay = 24 * 60
	// maxLayer bounds the layers of scenes.
	maxLayer = 100
)

// room returns the error of a room.
func (c *checker) room(i int) api.Errno {
	return c.listed(api.OfRoom, i, api.MaxRooms, c.Rooms[i])
}

// person returns the error of a person.
func (c *checker) person(i int) api.Errno {
	return c.listed(api.OfPerson, i, maxPeople, c.Persons[i])
}

// mode returns the error of a mode.
func (c *checker) mode(i int) api.Errno {
	return c.listed(api.OfMode, i, maxModes, c.Modes[i])
}

// timer returns the error of a timer.
func (c *checker) timer(i int) api.Errno {
	return c.listed(api.OfTimer, i, api.MaxTimers, c.Timers[i])
}

// window returns the error of a window.
func (c *checker) window(i int) api.Errno {
	w := c.Quiet[i]
	switch {
	case i == api.MaxWindows:
		return api.ErrLimit
	case !within(w.From, 0, minutesOfDay-1) || !within(w.To, 0, minutesOfDay-1) || w.From == w.To:
		return api.ErrRange
	}
	return api.OK
}

// kind returns the error of a kind.
func (c *checker) kind(i int) api.Errno {
	k := c.Kinds[i]
	if err := c.listed(api.OfKind, i, api.MaxRooms, k.Name); err != api.OK {
		return err
	}
	first := firsts(k.Attrs, func(a api.Attr) string { return a.Name })
	for n, a := range k.Attrs {
		if first[a.Name] < n {
			return api.ErrTwice
		}
		if err := attrError(a); err != api.OK {
			return err
		}
	}
	return api.OK
}

// attrError returns the error of an attribute, whatever its name is.
func attrError(a api.Attr) api.Errno {
	if len(firsts(a.Values, itself)) < len(a.Values) {
		return api.ErrTwice
	}
	v, err := valuesOf(a)
	if err != api.OK {
		return err
	}
	if _, err := v.index(a.Start); err != api.OK {
		return err
	}
	_, err = v.index(a.Fallback)
	return err
}

// device returns the error of a device.
func (c *checker) device(i int) api.Errno {
	d := c.Devices[i]
	if err := c.listed(api.OfDevice, i, api.MaxDevices, d.Name); err != api.OK {
		return err
	}
	_, kind := c.find(api.OfKind, d.Kind)
	_, room := c.find(api.OfRoom, d.Room)
	switch {
	case !kind || !room:
		return api.ErrName
	case c.counts[i] > api.MaxVars:
		return api.ErrLimit
	}
	return api.OK
}

// countVariables notes how many variables there are with each device and those before it.
func (c *checker) countVariables() {
	count := firstPerson + len(c.Persons)
	for _, d := range c.Devices {
		if kind, ok := c.find(api.OfKind, d.Kind); ok {
			count += len(c.Kinds[kind].Attrs)
		}
		c.counts = append(c.counts, count)
	}
}

// scene returns the error of a scene.
func (c *checker) scene(i int) api.Errno {
	s := c.Scenes[i]
	if err := c.listed(api.OfScene, i, api.MaxScenes, s.Name); err != api.OK {
		return err
	}
	if !within(s.Layer, 0, maxLayer) {
		return api.ErrRange
	}
	for _, setting := range s.Settings {
		if _, err := c.setting(setting); err != api.OK {
			return err
		}
	}
	return api.OK
}
