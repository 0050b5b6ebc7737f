package session

import (
	"slices"

	"domicile/api"
)

// choice is a choice with the order of choices.
type choice api.Choice

func (c choice) compare(other choice) int {
	if c.Send != other.Send {
		if other.Send {
			return -1
		}
		return 1
	}
	return c.Msg - other.Msg
}

// key distinguishes states: their class so far, and their choices, each with the class of the state to which it leads.
type key struct {
	class, count int
	choices      [maxChoices]choice
}

// Least returns the least session type that permits the same messages.
func Least(s api.Session) api.Session {
	if !Valid(s) {
		return api.Session{}
	}
	choices := sortedChoices(s)
	classes := divide(choices)
	// All states of a class have the same choices, apart from the numbers of equal states.
	member := map[int][]choice{}
	for state, class := range classes {
		member[class] = choices[state]
	}
	order := reach(classes[0], func(class int) []int {
		var following []int
		for _, c := range member[class] {
			following = append(following, classes[c.Next])
		}
		return following
	})
	least := api.Session{States: make([][]api.Choice, len(order))}
	for i, class := range order {
		for _, c := range member[class] {
			c.Next = slices.Index(order, classes[c.Next])
			least.States[i] = append(least.States[i], api.Choice(c))
		}
	}
	return least
}

func sortedChoices(s api.Session) [][]choice {
	sorted := make([][]choice, len(s.States))
	for i, choices := range s.States {
		for _, c := range choices {
			sorted[i] = append(sorted[i], choice(c))
		}
		slices.SortFunc(sorted[i], choice.compare)
	}
	return sorted
}

// divide returns the class of each state; the states of a class permit the same.
func divide(choices [][]choice) []int {
	classes := make([]int, len(choices))
	for count := 1; ; {
		keys := map[key]int{}
		finer := make([]int, len(choices))
		for state, list := range choices {
			k := key{class: classes[state], count: len(list)}
			for i, c := range list {
				c.Next = classes[c.Next]
				k.choices[i] = c
			}
			if _, ok := keys[k]; !ok {
				keys[k] = len(keys)
			}
			finer[state] = keys[k]
		}
		classes = finer
		if len(keys) == count {
			return classes
		}
		count = len(keys)
	}
}
