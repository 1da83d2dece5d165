package policy_test

import (
	"regexp"
	"slices"
	"strings"

	"ravelin/api"
	"ravelin/lex"
)

// The chapter's grammar, letter by letter.
const chapterGrammar = `
policy  = "arch" NAME ";" "foreign" verdict ";" "default" verdict ";" { rule } END
rule    = "on" call { "," call } [ "when" expr ] "do" verdict ";"
call    = NAME | NUMBER
verdict = "kill_process" | "kill_thread" | "trap" NUMBER | "errno" NUMBER
        | "notify" | "trace" NUMBER | "log" | "allow"
expr    = all { "or" all }
all     = one { "and" one }
one     = "not" one | "(" expr ")" | "true" | "false" | test
test    = field [ "&" NUMBER ] rel NUMBER
field   = "arg0" | "arg1" | "arg2" | "arg3" | "arg4" | "arg5" | "ip"
rel     = "==" | "!=" | "<" | "<=" | ">" | ">="
`

// production is one way of a symbol; parts that begin with a quote, and those in great letters, are tokens.
type production struct {
	of    string
	parts []string
}

// grammar are the productions, by their symbols.
type grammar map[string][]production

var symbolForm = regexp.MustCompile(`"[^"]*"|[A-Za-z]+|[=|{}\[\]]`)

// readGrammar reads the chapter's grammar; what stands in { } and [ ] becomes a symbol of its own.
func readGrammar(text string) grammar {
	g := grammar{"EXPR": {{"EXPR", []string{"expr", "END"}}}}
	l := symbolForm.FindAllString(text, -1)
	for i := 0; i < len(l); {
		of := l[i]
		i += 2
		end := i
		for end < len(l) && (end+1 == len(l) || l[end+1] != "=") {
			end++
		}
		g.add(of, l[i:end])
		i = end
	}
	return g
}

// add adds the ways of a symbol, which stand between bars.
func (g grammar) add(of string, l []string) {
	var parts []string
	for i := 0; i < len(l); i++ {
		switch l[i] {
		case "|":
			g[of] = append(g[of], production{of, parts})
			parts = nil
		case "{", "[":
			end := i + slices.IndexFunc(l[i:], func(s string) bool { return s == "}" || s == "]" })
			inner := of + strings.Repeat("'", 1+len(g))
			body := slices.Clone(l[i+1 : end])
			if l[i] == "{" {
				body = append([]string{inner}, body...)
			}
			g[inner] = []production{{inner, nil}, {inner, body}}
			parts = append(parts, inner)
			i = end
		default:
			parts = append(parts, l[i])
		}
	}
	g[of] = append(g[of], production{of, parts})
}

// matches: is the token one of a grammar's part?
func matches(part string, t api.Token) bool {
	switch part {
	case "NAME":
		return t.Kind == 2
	case "NUMBER":
		return t.Kind == 3
	case "END":
		return t.Kind == 1
	}
	return part == `"`+t.Text+`"`
}

// item is a production that is gone through up to a part, and where that began (Earley's way of reading).
type item struct {
	of    string
	way   int
	dot   int
	begin int
}

// chart are the items behind each token.
type chart struct {
	g    grammar
	sets [][]item
	seen []map[item]bool
}

// newChart begins with a symbol.
func newChart(g grammar, start string) *chart {
	c := &chart{g: g}
	c.grow(nil)
	for way := range g[start] {
		c.put(item{start, way, 0, 0})
	}
	c.close()
	return c
}

func (c *chart) grow(l []item) {
	c.sets = append(c.sets, nil)
	c.seen = append(c.seen, map[item]bool{})
	for _, x := range l {
		c.put(x)
	}
}

func (c *chart) put(x item) {
	last := len(c.sets) - 1
	if !c.seen[last][x] {
		c.seen[last][x] = true
		c.sets[last] = append(c.sets[last], x)
	}
}

// part is what an item asks for next; "" where it is through.
func (c *chart) part(x item) string {
	parts := c.g[x.of][x.way].parts
	if x.dot == len(parts) {
		return ""
	}
	return parts[x.dot]
}

// close puts all that follows from the last items.
func (c *chart) close() {
	last := len(c.sets) - 1
	for n := -1; n != len(c.sets[last]); { // what is empty may be through ahead of what asks for it
		n = len(c.sets[last])
		for i := 0; i < len(c.sets[last]); i++ {
			c.follow(c.sets[last][i], last)
		}
	}
}

func (c *chart) follow(x item, last int) {
	part := c.part(x)
	if part == "" {
		for _, y := range slices.Clone(c.sets[x.begin]) {
			if c.part(y) == x.of {
				y.dot++
				c.put(y)
			}
		}
		return
	}
	for way := range c.g[part] {
		c.put(item{part, way, 0, last})
	}
}

// scan goes on by a token: by which parts it may stand there; none if it may not.
func (c *chart) scan(t api.Token) []string {
	var parts []string
	var l []item
	for _, x := range c.sets[len(c.sets)-1] {
		if part := c.part(x); part != "" && c.g[part] == nil && matches(part, t) {
			parts = append(parts, part)
			x.dot++
			l = append(l, x)
		}
	}
	if l != nil {
		c.grow(l)
		c.close()
	}
	return parts
}

// back takes back the last token.
func (c *chart) back() {
	c.sets = c.sets[:len(c.sets)-1]
	c.seen = c.seen[:len(c.seen)-1]
}

// account goes through a text as the chapter says, and keeps what stands open.
type account struct {
	*chart
	open  []int // the tokens by number that are a `(` or a `not` of an expression which is not through
	deep  int   // how many stood open at once
	rules int
}

// add goes on by a token, or tells what is wrong with it.
func (a *account) add(t api.Token) api.Errno {
	parts := a.scan(t)
	if len(parts) == 0 {
		return 61
	}
	for _, part := range parts {
		switch part {
		case `"("`, `"not"`:
			if len(a.open) == 64 {
				return 62
			}
			a.open = append(a.open, len(a.sets)-2)
			a.deep = max(a.deep, len(a.open))
		case `"on"`:
			if a.rules == 512 {
				return 63
			}
			a.rules++
		}
	}
	for _, x := range a.sets[len(a.sets)-1] {
		if x.of == "one" && a.part(x) == "" {
			a.open = slices.DeleteFunc(a.open, func(n int) bool { return n >= x.begin })
		}
	}
	return 0
}

var theGrammar = readGrammar(chapterGrammar)

// judge is what is to be told of a text of a symbol: the error and its place; and its depth, and its tokens.
func judge(start, text string) (api.Errno, int, int, []api.Token) {
	a := &account{chart: newChart(theGrammar, start)}
	var l []api.Token
	for at := 0; ; {
		t, next, err := lex.Next(text, at)
		if err != 0 {
			return err, next, 0, nil
		}
		if err = a.add(t); err != 0 {
			return err, t.At, 0, nil
		}
		l = append(l, t)
		if t.Kind == 1 {
			return 0, 0, a.deep, l
		}
		at = next
	}
}
