package parser_test

import (
	"slices"
	"strings"

	"domicile/api"
	"domicile/lexer"
)

// grammarText is the grammar of the chapter; only the two numbers of a time have names of their own, because of their ranges.
const grammarText = `
house    = { item } .
item     = "room" NAME ";"
         | "kind" NAME "{" { attr } "}"
         | "device" NAME ":" NAME "in" NAME ";"
         | "person" NAME ";" | "mode" NAME ";" | "timer" NAME ";"
         | "quiet" time "to" time ";"
         | "scene" NAME "layer" INT "{" { ref "=" literal ";" } "}"
         | "rule" NAME "priority" INT "when" ( "timer" NAME | atom ) [ "if" atom { "and" atom } ] "do" action { "," action } ";"
         | "law" NAME "never" atom { "and" atom } "for" quantity ";" .
attr     = NAME ":" ( NAME "or" NAME { "or" NAME } | quantity "to" quantity "step" quantity )
           [ "sensor" ] [ "private" ] [ "shown" ] "start" literal [ "fallback" literal ] ";" .
ref      = "mode" | "quiet" | NAME [ "." NAME ] .
atom     = ref ( "is" [ "not" ] | "<" | "<=" | ">" | ">=" ) literal .
action   = ref "=" literal | "start" NAME quantity | "stop" NAME | "scene" NAME { "over" NAME } .
literal  = NAME | quantity .
quantity = [ "-" ] NUMBER [ NAME | "%" ] .
time     = HOUR ":" MINUTE .
`

// keyWords are the key words of the chapter.
var keyWords = strings.Fields("room kind device in person mode timer quiet to scene layer rule priority when if and do law never for or step sensor private shown start fallback is not stop over")

// places is a set of positions between tokens.
type places map[int]bool

// recognizer follows the grammar from all positions of a set at once. far is the greatest position at which a token was asked for.
type recognizer struct {
	tokens []api.Token
	rules  map[string]form
	far    int
}

// form is a part of the grammar: it returns where it can end if it begins at some positions.
type form func(r *recognizer, from places) places

// terminal is a form of one token.
func terminal(fits func(api.Token) bool) form {
	return func(r *recognizer, from places) places {
		to := places{}
		for at := range from {
			r.far = max(r.far, at)
			if at < len(r.tokens) && fits(r.tokens[at]) {
				to[at+1] = true
			}
		}
		return to
	}
}

// word is a symbol or key word.
func word(text string) form {
	return terminal(func(t api.Token) bool { return t.Text == text })
}

// whole is a number without a dot from 0 to a bound.
func whole(most int) form {
	return terminal(func(t api.Token) bool {
		return t.Kind == api.TokNumber && !strings.Contains(t.Text, ".") && t.Tenths <= 10*most
	})
}

// named is a rule of the grammar or a kind of tokens.
func named(name string) form {
	switch name {
	case "NAME":
		return terminal(func(t api.Token) bool { return t.Kind == api.TokName && !slices.Contains(keyWords, t.Text) })
	case "NUMBER":
		return terminal(func(t api.Token) bool { return t.Kind == api.TokNumber })
	case "INT":
		return whole(1000000)
	case "HOUR":
		return whole(23)
	case "MINUTE":
		return whole(59)
	}
	return func(r *recognizer, from places) places {
		if len(from) == 0 {
			return from
		}
		return r.rules[name](r, from)
	}
}

// sequence is a form after another one.
func sequence(a, b form) form {
	return func(r *recognizer, from places) places { return b(r, a(r, from)) }
}

// either is one of two forms.
func either(a, b form) form {
	return func(r *recognizer, from places) places { return union(a(r, from), b(r, from)) }
}

// nothing is the form without tokens.
func nothing(_ *recognizer, from places) places { return from }

// repeated is a form any number of times.
func repeated(a form) form {
	return func(r *recognizer, from places) places {
		all := from
		for step := a(r, from); len(step) > 0; step = a(r, step) {
			all = union(all, step)
		}
		return all
	}
}

// union returns the union of two sets.
func union(a, b places) places {
	all := places{}
	for at := range a {
		all[at] = true
	}
	for at := range b {
		all[at] = true
	}
	return all
}

// grammarReader reads grammarText.
type grammarReader struct{ words []string }

// take takes a word if it is the next one.
func (g *grammarReader) take(word string) bool {
	if g.words[0] != word {
		return false
	}
	g.words = g.words[1:]
	return true
}

// rules reads all rules.
func (g *grammarReader) rules() map[string]form {
	rules := map[string]form{}
	for len(g.words) > 0 {
		name := g.words[0]
		g.words = g.words[2:]
		rules[name] = g.alternatives()
		if !g.take(".") {
			panic("the grammar has no dot after " + name)
		}
	}
	return rules
}

// alternatives reads forms with bars between them.
func (g *grammarReader) alternatives() form {
	f := g.parts()
	for g.take("|") {
		f = either(f, g.parts())
	}
	return f
}

// parts reads forms that follow each other.
func (g *grammarReader) parts() form {
	f := g.part()
	for !strings.Contains(" | . ] } ) ", " "+g.words[0]+" ") {
		f = sequence(f, g.part())
	}
	return f
}

// part reads one form.
func (g *grammarReader) part() form {
	first := g.words[0]
	g.words = g.words[1:]
	switch first {
	case "{", "[", "(":
		f := g.alternatives()
		g.words = g.words[1:]
		if first == "{" {
			return repeated(f)
		} else if first == "[" {
			return either(f, nothing)
		}
		return f
	}
	if strings.HasPrefix(first, `"`) {
		return word(strings.Trim(first, `"`))
	}
	return named(first)
}

// grammar has the rules of grammarText.
var grammar = (&grammarReader{strings.Fields(grammarText)}).rules()

// refError returns the error and the offset that Parse has to return.
func refError(text string) (api.Errno, int) {
	tokens, err, at := lexer.Lex(text)
	if err != api.OK {
		return err, at
	}
	r := &recognizer{tokens: tokens, rules: grammar}
	if grammar["house"](r, places{0: true})[len(tokens)] {
		return api.OK, -1
	}
	if r.far < len(tokens) {
		return api.ErrSyntax, tokens[r.far].Offset
	}
	return api.ErrEnd, len(text)
}
