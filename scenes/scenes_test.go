package scenes_test

import (
	"math/rand"
	"slices"
	"strings"
	"testing"

	"domicile/api"
	"domicile/scenes"
)

// set returns a setting from a text such as "lamp.power = on".
func set(text string) api.Setting {
	target, value, _ := strings.Cut(text, " = ")
	return api.Setting{Ref: refOf(target), Value: api.Literal{Name: value}}
}

// refOf returns a reference from a text with or without a dot.
func refOf(text string) api.Ref {
	device, attr, ok := strings.Cut(text, ".")
	if !ok {
		return api.Ref{Attr: text}
	}
	return api.Ref{Device: device, Attr: attr}
}

// scene returns a scene; its settings stand in a text with semicolons between them.
func scene(name string, layer int, text string) api.Scene {
	return api.Scene{Name: name, Layer: layer, Settings: sets(text)}
}

// sets returns settings from a text with semicolons between them.
func sets(text string) []api.Setting {
	var list []api.Setting
	for _, part := range strings.Split(text, "; ") {
		if part != "" {
			list = append(list, set(part))
		}
	}
	return list
}

// example has the scenes of the chapter, and some more.
func example() []api.Scene {
	return []api.Scene{
		scene("evening", 1, "lamp.power = on; heater.power = on"),
		scene("away", 5, "lamp.power = off"),
		scene("film", 1, "lamp.power = dim"),
		scene("empty", 9, ""),
		scene("twice", 2, "a = 1; b = 2; a = 3; b = 4; c = 5; a = 6"),
		scene("away", 7, "heater.power = high"),
		scene("", -3, "a = none; mode = night"),
		scene("dots", 1, "a.b = x; a = y; b.a = z"),
	}
}

// P5.1: overlays, with the examples of the chapter.
func TestOverlay(t *testing.T) {
	for _, test := range []struct{ names, want string }{
		{"evening", "lamp.power = on; heater.power = on"},
		{"evening film", "lamp.power = dim; heater.power = on"},
		{"film evening", "lamp.power = on; heater.power = on"},
		{"away evening", "lamp.power = off; heater.power = on"},
		{"evening away", "lamp.power = off; heater.power = on"},
		{"film evening film", "lamp.power = dim; heater.power = on"},
		{"evening film evening", "lamp.power = on; heater.power = on"},
		{"away away", "lamp.power = off"},
		{"empty", ""},
		{"empty evening empty", "lamp.power = on; heater.power = on"},
		{"", ""},
		{"twice", "a = 6; b = 4; c = 5"},
		{"twice dots", "a = 6; b = 4; c = 5; a.b = x; b.a = z"},
		{"dots twice", "a.b = x; a = 6; b.a = z; b = 4; c = 5"},
	} {
		got, err := scenes.Overlay(example(), strings.Fields(test.names))
		if err != api.OK || !slices.Equal(got, sets(test.want)) {
			t.Errorf("Overlay of %q = %v, %v, want %v", test.names, got, err, test.want)
		}
	}
	if got, err := scenes.Overlay(example(), []string{"twice", ""}); err != api.OK || !slices.Equal(got, sets("a = 6; b = 4; c = 5; mode = night")) {
		t.Errorf("the scene without a name: %v, %v", got, err)
	}
}

// P5.1: winners.
func TestWins(t *testing.T) {
	for _, test := range []struct {
		names, ref string
		want       int
	}{
		{"evening film", "lamp.power", 2}, {"film evening", "lamp.power", 0}, {"film evening film", "lamp.power", 2}, {"film evening", "heater.power", 0}, {"evening away film", "lamp.power", 1}, {"away evening", "heater.power", 0},
		{"evening", "lamp.level", -1}, {"evening", "power", -1}, {"", "lamp.power", -1}, {"empty", "lamp.power", -1}, {"dots", "a", 7}, {"twice dots", "a", 4}, {"dots", "a.a", -1}, {"dots", "b", -1}, {"dots", "b.a", 7},
		{"evening none", "lamp.power", -1}, {"none evening", "lamp.power", -1},
	} {
		if got := scenes.Wins(example(), strings.Fields(test.names), refOf(test.ref)); got != test.want {
			t.Errorf("Wins of %q about %s = %v, want %v", test.names, test.ref, got, test.want)
		}
	}
}

// P5.1 and P5.8: with an unknown name there is no overlay.
func TestUnknown(t *testing.T) {
	for _, names := range [][]string{{"night"}, {"evening", "night"}, {"night", "evening"}, {"Evening"}, {"evening "}, {"evening", "film", "x", "away"}} {
		if got, err := scenes.Overlay(example(), names); err != api.ErrName || len(got) != 0 {
			t.Errorf("Overlay of %q = %v, %v, want none, %v", names, got, err, api.ErrName)
		}
	}
	for _, names := range [][]string{{"evening"}, {""}} {
		if got, err := scenes.Overlay(nil, names); err != api.ErrName || len(got) != 0 {
			t.Errorf("Overlay of %q of no scenes = %v, %v", names, got, err)
		}
		if got := scenes.Wins(nil, names, api.Ref{}); got != -1 {
			t.Errorf("Wins of %q of no scenes = %v", names, got)
		}
	}
	if got, err := scenes.Overlay(nil, nil); err != api.OK || len(got) != 0 {
		t.Errorf("Overlay of nothing = %v, %v", got, err)
	}
	if got := scenes.Wins(nil, nil, api.Ref{}); got != -1 {
		t.Errorf("Wins of nothing = %v", got)
	}
}

// refWins returns what Wins has to return: it looks at all named scenes for each attribute.
func refWins(l []api.Scene, names []string, r api.Ref) int {
	best := -1
	for _, name := range names {
		i := slices.IndexFunc(l, func(s api.Scene) bool { return s.Name == name })
		if i < 0 {
			return -1
		}
		if _, ok := refSetting(l[i], r); ok && (best < 0 || l[i].Layer >= l[best].Layer) {
			best = i
		}
	}
	return best
}

// refSetting returns the setting of an attribute by a scene.
func refSetting(s api.Scene, r api.Ref) (api.Setting, bool) {
	for _, e := range slices.Backward(s.Settings) {
		if e.Ref == r {
			return e, true
		}
	}
	return api.Setting{}, false
}

// refRefs returns the attributes that named scenes set, in the order of their first occurrences; false if a name is unknown.
func refRefs(l []api.Scene, names []string) ([]api.Ref, bool) {
	var list []api.Ref
	for _, name := range names {
		i := slices.IndexFunc(l, func(s api.Scene) bool { return s.Name == name })
		if i < 0 {
			return nil, false
		}
		for _, e := range l[i].Settings {
			if !slices.Contains(list, e.Ref) {
				list = append(list, e.Ref)
			}
		}
	}
	return list, true
}

// randomScenes returns scenes with few names, layers and attributes, so that many of them meet.
func randomScenes(r *rand.Rand) []api.Scene {
	var list []api.Scene
	for range r.Intn(7) {
		s := api.Scene{Name: randomName(r), Layer: []int{0, 1, 1, 2, -1, 1 << 62, -1 << 63}[r.Intn(7)]}
		for range r.Intn(5) {
			s.Settings = append(s.Settings, api.Setting{Ref: randomRef(r), Value: api.Literal{Quantity: api.Quantity{Tenths: r.Intn(1000)}}})
		}
		list = append(list, s)
	}
	return list
}

func randomName(r *rand.Rand) string { return string(rune('a' + r.Intn(6))) }

func randomRef(r *rand.Rand) api.Ref {
	return api.Ref{Device: []string{"", "x", "y"}[r.Intn(3)], Attr: []string{"x", "y"}[r.Intn(2)]}
}

// randomNames returns names; most of them are those of scenes.
func randomNames(r *rand.Rand, l []api.Scene) []string {
	var names []string
	for range r.Intn(6) {
		if len(l) > 0 && r.Intn(10) > 0 {
			names = append(names, l[r.Intn(len(l))].Name)
		} else {
			names = append(names, randomName(r))
		}
	}
	return names
}

// each calls a function with random scenes and names.
func each(seed int64, f func(r *rand.Rand, l []api.Scene, names []string)) {
	r := rand.New(rand.NewSource(seed))
	for range 20000 {
		l := randomScenes(r)
		f(r, l, randomNames(r, l))
	}
}

// overlay returns the overlay of known scenes.
func overlay(t *testing.T, l []api.Scene, names []string) []api.Setting {
	t.Helper()
	got, err := scenes.Overlay(l, names)
	if err != api.OK {
		t.Fatalf("Overlay of %q: %v", names, err)
	}
	return got
}

// known reports whether there is a scene for each name.
func known(l []api.Scene, names []string) bool {
	_, ok := refRefs(l, names)
	return ok
}

// P5.1 to P5.4: random overlays and winners are what the reference says.
func TestRandom(t *testing.T) {
	each(1, func(r *rand.Rand, l []api.Scene, names []string) {
		refs, ok := refRefs(l, names)
		got, err := scenes.Overlay(l, names)
		if ok != (err == api.OK) || !ok && (err != api.ErrName || len(got) != 0) || len(got) != len(refs) {
			t.Fatalf("Overlay(%v, %q) = %v, %v", l, names, got, err)
		}
		for i, e := range got {
			want, _ := refSetting(l[refWins(l, names, refs[i])], refs[i])
			if e != want {
				t.Errorf("Overlay(%v, %q) has %v at %v, want %v", l, names, e, i, want)
			}
		}
		ref := randomRef(r)
		if got, want := scenes.Wins(l, names, ref), refWins(l, names, ref); got != want {
			t.Errorf("Wins(%v, %q, %v) = %v, want %v", l, names, ref, got, want)
		}
	})
}

// P5.2: each setting of an overlay is that of the scene that wins; no attribute occurs twice.
func TestWinners(t *testing.T) {
	each(2, func(_ *rand.Rand, l []api.Scene, names []string) {
		if !known(l, names) {
			return
		}
		seen := map[api.Ref]bool{}
		for _, e := range overlay(t, l, names) {
			i := scenes.Wins(l, names, e.Ref)
			if seen[e.Ref] || i < 0 {
				t.Fatalf("the overlay of %q of %v has %v, which wins in %v", names, l, e, i)
			}
			if want, _ := refSetting(l[i], e.Ref); e != want {
				t.Errorf("the overlay of %q of %v has %v, want %v", names, l, e, want)
			}
			seen[e.Ref] = true
		}
		for _, ref := range []api.Ref{refOf("x"), refOf("y"), refOf("x.x"), refOf("x.y"), refOf("y.x"), refOf("y.y")} {
			if seen[ref] != (scenes.Wins(l, names, ref) >= 0) {
				t.Errorf("the overlay of %q of %v has %v: %v", names, l, ref, seen[ref])
			}
		}
	})
}

// P5.4: no named scene that sets an attribute has a greater layer than the winner, or the same one and a later name.
func TestLayers(t *testing.T) {
	each(3, func(_ *rand.Rand, l []api.Scene, names []string) {
		if !known(l, names) {
			return
		}
		for _, e := range overlay(t, l, names) {
			i := scenes.Wins(l, names, e.Ref)
			after := false
			for _, name := range slices.Backward(names) {
				k := slices.IndexFunc(l, func(s api.Scene) bool { return s.Name == name })
				after = after || k == i
				if _, sets := refSetting(l[k], e.Ref); sets && (l[k].Layer > l[i].Layer || l[k].Layer == l[i].Layer && !after) {
					t.Errorf("the scene %v wins %v in %q of %v", i, e.Ref, names, l)
				}
			}
		}
	})
}

// sorted returns settings in the order of their attributes.
func sorted(l []api.Setting) []api.Setting {
	l = slices.Clone(l)
	slices.SortFunc(l, func(a, b api.Setting) int {
		return strings.Compare(a.Ref.Device+"."+a.Ref.Attr, b.Ref.Device+"."+b.Ref.Attr)
	})
	return l
}

// P5.5: with different layers, the order and the repetition of the names change only the order.
func TestPermutations(t *testing.T) {
	each(4, func(r *rand.Rand, l []api.Scene, names []string) {
		for i := range l {
			l[i].Layer = 10*i - 20
		}
		r.Shuffle(len(l), func(i, k int) { l[i].Layer, l[k].Layer = l[k].Layer, l[i].Layer })
		if !known(l, names) {
			return
		}
		other := slices.Clone(names)
		if len(names) > 0 {
			other = append(other, names[r.Intn(len(names))])
		}
		r.Shuffle(len(other), func(i, k int) { other[i], other[k] = other[k], other[i] })
		if a, b := overlay(t, l, names), overlay(t, l, other); !slices.Equal(sorted(a), sorted(b)) {
			t.Errorf("%q and %q of %v have %v and %v", names, other, l, a, b)
		}
	})
}

// P5.6: a further name at the end changes only what its scene sets, and only with a layer that is not less.
func TestFurther(t *testing.T) {
	each(5, func(r *rand.Rand, l []api.Scene, names []string) {
		if !known(l, names) || len(l) == 0 {
			return
		}
		name := l[r.Intn(len(l))].Name
		k := slices.IndexFunc(l, func(s api.Scene) bool { return s.Name == name })
		longer := append(slices.Clone(names), name)
		before, after := overlay(t, l, names), overlay(t, l, longer)
		for i, e := range before {
			want := e
			if own, sets := refSetting(l[k], e.Ref); sets && l[k].Layer >= l[scenes.Wins(l, names, e.Ref)].Layer {
				want = own
			}
			if after[i] != want {
				t.Errorf("%q and then %q of %v: %v becomes %v, want %v", names, name, l, e, after[i], want)
			}
		}
		for _, e := range after[len(before):] {
			if own, sets := refSetting(l[k], e.Ref); !sets || own != e {
				t.Errorf("%q and then %q of %v: %v is new", names, name, l, e)
			}
		}
	})
}

// P5.7: a scene alone yields its own settings, also if it is named again.
func TestOneScene(t *testing.T) {
	each(6, func(_ *rand.Rand, l []api.Scene, _ []string) {
		for i, s := range l {
			if slices.IndexFunc(l, func(o api.Scene) bool { return o.Name == s.Name }) != i {
				continue
			}
			once := overlay(t, l, []string{s.Name})
			for _, e := range once {
				if own, sets := refSetting(s, e.Ref); !sets || own != e {
					t.Errorf("the overlay of %v has %v", s, e)
				}
			}
			for _, e := range s.Settings {
				if !slices.ContainsFunc(once, func(o api.Setting) bool { return o.Ref == e.Ref }) {
					t.Errorf("the overlay of %v does not set %v", s, e.Ref)
				}
			}
			if again := overlay(t, l, []string{s.Name, s.Name, s.Name}); !slices.Equal(again, once) {
				t.Errorf("the overlay of %v is %v, and again %v", s, once, again)
			}
		}
	})
}

// P5.8: scenes that are not named do not matter.
func TestOtherScenes(t *testing.T) {
	each(7, func(r *rand.Rand, l []api.Scene, names []string) {
		if !known(l, names) {
			return
		}
		more := slices.Clone(l)
		for range 3 {
			more = slices.Insert(more, r.Intn(len(more)+1), api.Scene{Name: "other", Layer: 1 << 62, Settings: sets("x = 1; x.x = 2")})
		}
		if a, b := overlay(t, l, names), overlay(t, more, names); !slices.Equal(a, b) {
			t.Errorf("%q of %v has %v, and with other scenes %v", names, l, a, b)
		}
		for _, s := range l {
			if slices.Contains(names, s.Name) {
				continue
			}
			rest := slices.DeleteFunc(slices.Clone(l), func(o api.Scene) bool { return o.Name == s.Name })
			if a, b := overlay(t, l, names), overlay(t, rest, names); !slices.Equal(a, b) {
				t.Errorf("%q of %v has %v, and without %q %v", names, l, a, s.Name, b)
			}
		}
	})
}

// P3: equal arguments have equal results, arguments are not changed, and a changed result changes nothing.
func TestIndependence(t *testing.T) {
	l, names := example(), []string{"evening", "film", "twice"}
	first, _ := scenes.Overlay(l, names)
	kept := slices.Clone(first)
	clear(first)
	again, _ := scenes.Overlay(example(), slices.Clone(names))
	if !slices.Equal(again, kept) || !slices.Equal(overlay(t, l, names), kept) || !slices.EqualFunc(l, example(), func(a, b api.Scene) bool { return slices.Equal(a.Settings, b.Settings) }) {
		t.Errorf("%v, and then %v", kept, again)
	}
}
