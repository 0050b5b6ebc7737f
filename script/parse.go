package script

import (
	"strconv"
	"strings"

	"domicile/api"
)

// command says what words follow the first one of a line, and what executes it.
type command struct {
	name, kind, rest bool // a word that is no number, one of the kinds of caveats, or all that follows
	nums             int
	run              func(*Session, arguments, *output) api.Errno
}

// arguments are what stands in a line after its first word.
type arguments struct {
	name, rest string
	kind       int
	nums       []int
}

func commands() map[string]command {
	return map[string]command{
		"hub":        {nums: 1, run: (*Session).choose},
		"text":       {rest: true, run: (*Session).add},
		"load":       {run: (*Session).load},
		"edit":       {name: true, run: (*Session).edit},
		"set":        {nums: 2, run: (*Session).set},
		"wait":       {nums: 1, run: (*Session).wait},
		"mint":       {nums: 1, run: (*Session).mint},
		"narrow":     {kind: true, nums: 1, run: (*Session).narrow},
		"guest":      {nums: 3, run: (*Session).guest},
		"revoke":     {nums: 1, run: (*Session).revoke},
		"quarantine": {nums: 1, run: (*Session).quarantine},
		"explain":    {nums: 1, run: (*Session).explain},
		"analyse":    {run: (*Session).analyse},
		"sync":       {run: (*Session).sync},
		"crash":      {nums: 1, run: (*Session).crash},
		"take":       {nums: 1, run: (*Session).take},
		"status":     {run: (*Session).status},
		"journal":    {run: (*Session).journal},
		"merge":      {nums: 1, run: (*Session).merge},
	}
}

func caveats() map[string]int {
	return map[string]int{
		"room":   api.CavRoom,
		"var":    api.CavVar,
		"after":  api.CavAfter,
		"before": api.CavBefore,
		"uses":   api.CavUses,
	}
}

// parse returns the command of a line and its arguments.
func parse(line string) (command, arguments, api.Errno) {
	if len(line) > maxLine {
		return command{}, arguments{}, api.ErrLimit
	}
	if strings.Contains(line, "\n") {
		return command{}, arguments{}, api.ErrSyntax
	}
	words := wordsOf(line)
	if len(words) == 0 || words[0][0] == '#' {
		return command{run: (*Session).nothing}, arguments{}, api.OK
	}
	c, ok := commands()[words[0]]
	if !ok {
		return command{}, arguments{}, api.ErrSyntax
	}
	if c.rest {
		return c, arguments{rest: restOf(line, words[0])}, api.OK
	}
	a, err := c.read(words[1:])
	return c, a, err
}

// read returns the arguments that words stand for.
func (c command) read(words []string) (arguments, api.Errno) {
	var a arguments
	count := c.nums
	if c.name || c.kind {
		count++
	}
	if len(words) != count {
		return a, api.ErrSyntax
	}
	if c.name {
		a.name = words[0]
	}
	if c.kind {
		kind, ok := caveats()[words[0]]
		if !ok {
			return a, api.ErrSyntax
		}
		a.kind = kind
	}
	nums, ok := parsed(words[count-c.nums:], number)
	if !ok {
		return a, api.ErrNumber
	}
	a.nums = nums
	return a, api.OK
}

// parsed returns what words stand for, unless one of them stands for nothing.
func parsed[T any](words []string, parse func(string) (T, bool)) ([]T, bool) {
	var list []T
	for _, word := range words {
		element, ok := parse(word)
		if !ok {
			return nil, false
		}
		list = append(list, element)
	}
	return list, true
}

// number returns the number that a word stands for.
func number(word string) (int, bool) {
	digits := strings.TrimPrefix(word, "-")
	if len(digits) < 1 || len(digits) > 10 || strings.Trim(digits, "0123456789") != "" {
		return 0, false
	}
	n, err := strconv.Atoi(word)
	return n, err == nil
}

// wordsOf returns the words of a line; only a blank separates them.
func wordsOf(line string) []string {
	return strings.FieldsFunc(line, func(r rune) bool { return r == ' ' })
}

// restOf returns what follows after the first word of a line and one blank.
func restOf(line, first string) string {
	rest := strings.TrimPrefix(strings.TrimLeft(line, " "), first)
	return strings.TrimPrefix(rest, " ")
}
