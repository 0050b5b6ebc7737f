package printer

import "domicile/api"

const (
	// maxTenths bounds the tenths of numbers that the lexer accepts.
	maxTenths = 9999999999
	// maxInteger bounds the integers that the parser accepts.
	maxInteger = 1000000
	// lastMinute is the last minute of a day.
	lastMinute = 24*60 - 1
)

// within reports whether a number is from low to high.
func within(n, low, high int) bool { return low <= n && n <= high }

// every reports whether all elements fit.
func every[T any](list []T, fits func(T) bool) bool {
	for _, element := range list {
		if !fits(element) {
			return false
		}
	}
	return true
}

// quantityPrintable reports whether a quantity is printable.
func quantityPrintable(q api.Quantity) bool {
	return within(q.Tenths, -maxTenths, maxTenths) && (q.Unit == "" || q.Unit == "%" || isName(q.Unit))
}

// literalPrintable reports whether a literal is printable.
func literalPrintable(l api.Literal) bool {
	if l.Name != "" {
		return isName(l.Name) && l.Quantity == api.Quantity{}
	}
	return quantityPrintable(l.Quantity)
}

// refPrintable reports whether a reference is printable.
func refPrintable(r api.Ref) bool {
	if r.Device != "" {
		return isName(r.Device) && isName(r.Attr)
	}
	return isName(r.Attr) || r.Attr == "mode" || r.Attr == "quiet"
}

// atomPrintable reports whether a comparison is printable.
func atomPrintable(a api.AtomText) bool {
	return refPrintable(a.Ref) && within(a.Op, api.OpEq, api.OpGe) && literalPrintable(a.Value)
}

// settingPrintable reports whether a setting is printable.
func settingPrintable(s api.Setting) bool {
	return refPrintable(s.Ref) && literalPrintable(s.Value)
}

// attrPrintable reports whether an attribute is printable.
func attrPrintable(a api.Attr) bool {
	return isName(a.Name) && valuesPrintable(a) && literalPrintable(a.Start) && literalPrintable(a.Fallback)
}

// valuesPrintable reports whether an attribute has either names or quantities as its values.
func valuesPrintable(a api.Attr) bool {
	if len(a.Values) == 0 {
		return quantityPrintable(a.Low) && quantityPrintable(a.High) && quantityPrintable(a.Step)
	}
	var zero api.Quantity
	return len(a.Values) > 1 && every(a.Values, isName) && a.Low == zero && a.High == zero && a.Step == zero
}

// actionPrintable reports whether an action is printable. The fields that its kind does not need have to be zero.
func actionPrintable(a api.ActionText) bool {
	noSetting := a.Ref == api.Ref{} && a.Value == api.Literal{}
	noTimer := a.Timer == ""
	noDuration := a.Duration == api.Quantity{}
	noScenes := len(a.Scenes) == 0
	switch a.Kind {
	case api.ActSet:
		return settingPrintable(settingOf(a)) && noTimer && noDuration && noScenes
	case api.ActStart:
		return isName(a.Timer) && quantityPrintable(a.Duration) && noSetting && noScenes
	case api.ActStop:
		return isName(a.Timer) && noSetting && noDuration && noScenes
	case api.ActScene:
		return !noScenes && every(a.Scenes, isName) && noSetting && noTimer && noDuration
	}
	return false
}

// settingOf returns the setting of an action.
func settingOf(a api.ActionText) api.Setting {
	return api.Setting{Ref: a.Ref, Value: a.Value}
}
