package tree

import (
	"slices"
	"strconv"
	"strings"
	"testing"

	"midstream/api"
	"midstream/lex"
)

// The chapter's grammar, a line for each of its rules.
const grammarText = `
program = "node" NAME "(" decls ")" "returns" "(" decls ")" ";" [ "var" { own } ] "let" { equation } "tel"
decls = [ decl { ";" decl } ]
decl = NAME ":" type
type = "int" | "bool"
own = decl [ "when" NAME | "unless" NAME ] ";"
equation = NAME "=" [ literal "fby" | "pre" ] expr ";"
literal = [ "-" ] NUM | "true" | "false"
expr = or [ "->" expr ]
or = and { ( "|" | "^" ) and }
and = cmp { "&" cmp }
cmp = shift [ ( "=" | "<>" | "<" | "<=" | ">" | ">=" ) shift ]
shift = sum { ( "<<" | ">>" ) sum }
sum = term { ( "+" | "-" ) term }
term = unary { ( "*" | "/" | "%" ) unary }
unary = ( "-" | "not" ) unary | factor
factor = atom { ( "when" | "unless" ) NAME }
atom = NUM | "true" | "false" | NAME | "(" expr ")" | "if" expr "then" expr "else" expr | "merge" NAME factor factor
`

// item is a part of a rule: a terminal or another rule (with its text), or one of the forms, with the parts of it.
type item struct {
	form  byte // 't'erminal, 'r'ule, 's'equence, '|', '[' or '{'
	text  string
	parts []*item
}

// stack is what must follow, the first item on top. Each is made only once, so that they are compared by their addresses.
type stack struct {
	top  *item
	rest *stack
}

// grammar follows all derivations of a text at once: a state is the set of the stacks that its beginning leaves, as their numbers.
type grammar struct {
	rules  map[string]*item
	stacks map[stack]*stack
	number map[*stack]int
	listed []*stack
	steps  map[string]string // the state behind a state and a token
}

func newGrammar() *grammar {
	g := &grammar{rules: map[string]*item{}, stacks: map[stack]*stack{}, number: map[*stack]int{}, steps: map[string]string{}}
	for _, line := range strings.Split(strings.TrimSpace(grammarText), "\n") {
		words := strings.Fields(line)
		rest := words[2:]
		g.rules[words[0]] = readChoice(&rest)
	}
	// After "var" there is at least one local variable, as the chapter says below the grammar.
	locals := g.rules["program"].parts[10]
	own := locals.parts[0].parts[1].parts[0]
	locals.parts[0].parts = slices.Insert(locals.parts[0].parts, 1, own)
	return g
}

// readChoice reads sequences with | between them, up to a closing sign or the end.
func readChoice(words *[]string) *item {
	out := &item{form: '|', parts: []*item{{form: 's'}}}
	for len(*words) > 0 {
		w := (*words)[0]
		*words = (*words)[1:]
		last := out.parts[len(out.parts)-1]
		switch {
		case w == ")" || w == "]" || w == "}":
			return simple(out)
		case w == "|":
			out.parts = append(out.parts, &item{form: 's'})
		case w == "(":
			last.parts = append(last.parts, readChoice(words))
		case w == "[" || w == "{":
			last.parts = append(last.parts, &item{form: w[0], parts: []*item{readChoice(words)}})
		case w == "NAME" || w == "NUM":
			last.parts = append(last.parts, &item{form: 't', text: w})
		case w[0] == '"':
			last.parts = append(last.parts, &item{form: 't', text: strings.Trim(w, `"`)})
		default:
			last.parts = append(last.parts, &item{form: 'r', text: w})
		}
	}
	return simple(out)
}

// simple leaves out a choice of one sequence.
func simple(choice *item) *item {
	if len(choice.parts) == 1 {
		return choice.parts[0]
	}
	return choice
}

func (g *grammar) push(top *item, rest *stack) *stack {
	s := stack{top, rest}
	if g.stacks[s] == nil {
		g.stacks[s] = &s
	}
	return g.stacks[s]
}

// expand finds the stacks with a terminal on top, and the empty one, to which a stack leads.
func (g *grammar) expand(s *stack, seen map[*stack]bool, out *[]*stack) {
	if seen[s] {
		return
	}
	seen[s] = true
	if s == nil || s.top.form == 't' {
		*out = append(*out, s)
		return
	}
	switch s.top.form {
	case 'r':
		g.expand(g.push(g.rules[s.top.text], s.rest), seen, out)
	case 's':
		next := s.rest
		for _, p := range slices.Backward(s.top.parts) {
			next = g.push(p, next)
		}
		g.expand(next, seen, out)
	case '|':
		for _, p := range s.top.parts {
			g.expand(g.push(p, s.rest), seen, out)
		}
	case '[':
		g.expand(s.rest, seen, out)
		g.expand(g.push(s.top.parts[0], s.rest), seen, out)
	case '{':
		g.expand(s.rest, seen, out)
		g.expand(g.push(s.top.parts[0], s), seen, out)
	}
}

// state is the name of a set of stacks.
func (g *grammar) state(l []*stack) string {
	seen := map[*stack]bool{}
	var out []*stack
	for _, s := range l {
		g.expand(s, seen, &out)
	}
	var numbers []int
	for _, s := range out {
		if _, ok := g.number[s]; !ok {
			g.number[s] = len(g.listed)
			g.listed = append(g.listed, s)
		}
		numbers = append(numbers, g.number[s])
	}
	slices.Sort(numbers)
	var name strings.Builder
	for _, n := range numbers {
		name.WriteString(strconv.Itoa(n) + " ")
	}
	return name.String()
}

// start is the state ahead of a text of a rule.
func (g *grammar) start(rule string) string {
	return g.state([]*stack{g.push(g.rules[rule], nil)})
}

func (g *grammar) members(state string) []*stack {
	var out []*stack
	for _, w := range strings.Fields(state) {
		n, _ := strconv.Atoi(w)
		out = append(out, g.listed[n])
	}
	return out
}

// step is the state behind one more token: "" if nothing can continue with it.
func (g *grammar) step(state, token string) string {
	key := state + token
	if _, ok := g.steps[key]; !ok {
		var next []*stack
		for _, s := range g.members(state) {
			if s != nil && s.top.text == token {
				next = append(next, s.rest)
			}
		}
		g.steps[key] = g.state(next)
	}
	return g.steps[key]
}

// complete is whether the text may end at a state.
func (g *grammar) complete(state string) bool {
	return slices.Contains(g.members(state), nil)
}

// longest is how many tokens the longest beginning has that can continue, and whether it is complete.
func (g *grammar) longest(rule string, l []api.Token) (int, bool) {
	state := g.start(rule)
	for i, k := range l {
		next := g.step(state, class(k))
		if next == "" {
			return i, g.complete(state)
		}
		state = next
	}
	return len(l), g.complete(state)
}

// class is what the grammar calls a token.
func class(k api.Token) string {
	switch k.Kind {
	case api.KName:
		return "NAME"
	case api.KNum:
		return "NUM"
	}
	return k.Text
}

// tokenOf is a token of a class, at the place that is its number.
func tokenOf(class string, number int) api.Token {
	switch {
	case class == "NAME":
		return api.Token{Kind: api.KName, Text: "x", At: number}
	case class == "NUM":
		return api.Token{Kind: api.KNum, Text: "7", N: 7, At: number}
	case lex.Word(class):
		return api.Token{Kind: api.KWord, Text: class, At: number}
	}
	return api.Token{Kind: api.KMark, Text: class, At: number}
}

// classes are all tokens, as the grammar calls them.
func classes() []string {
	return strings.Fields("NAME NUM node returns var let tel if then else fby pre when unless merge not true false int bool << >> <> <= >= -> ( ) : , ; = < > + - * / % & | ^")
}

// wantExpr compares where Expr ends, or what it refuses, with the grammar, of which the tokens are a beginning that leads to state, and one token more.
func wantExpr(t *testing.T, g *grammar, state string, l []api.Token) {
	t.Helper()
	const end = 1000
	last := len(l) - 1
	next := g.step(state, class(l[last]))
	wantN, want, wantAt := 0, api.ErrToken, end
	switch {
	case next == "" && g.complete(state):
		wantN, want, wantAt = last, api.OK, 0
	case next == "":
		wantAt = l[last].At
	case g.complete(next):
		wantN, want, wantAt = last+1, api.OK, 0
	}
	x, n, e, at := Expr(l, 0, end)
	if n != wantN || e != want || at != wantAt {
		t.Fatalf("Expr(%s) = %d, %d, %d, want %d, %d, %d", lex.Text(l), n, e, at, wantN, want, wantAt)
	}
	if e != api.OK && !SameExpr(x, api.Expr{}) {
		t.Fatalf("Expr(%s): %v with an error", lex.Text(l), x)
	}
}

// beginnings asks f for every beginning of a text of a rule with less than count of the tokens, and one token more.
func (g *grammar) beginnings(state string, tokens []string, count int, l []api.Token, f func(state string, l []api.Token)) {
	if len(l) == count {
		return
	}
	for _, c := range tokens {
		longer := append(slices.Clone(l), tokenOf(c, len(l)))
		f(state, longer)
		if next := g.step(state, c); next != "" {
			g.beginnings(next, tokens, count, longer, f)
		}
	}
}

// P13.2: all beginnings of expressions, and what can follow.
func TestExprFollowsTheGrammar(t *testing.T) {
	for _, c := range []struct {
		count  int
		tokens []string
	}{
		{3, classes()},
		{4, strings.Fields("NAME NUM true ( ) if then else merge when unless -> | & = < << + - * not ; fby")},
		{5, strings.Fields("NAME ( ) if then else merge when -> & < + - not")},
		{6, strings.Fields("NAME ( ) if then else merge when < +")},
		{8, strings.Fields("NAME if then else merge when <")},
		{12, strings.Fields("NAME if then else <")},
		{8, strings.Fields("NAME ( ) < - ->")},
	} {
		g := newGrammar()
		count := 0
		g.beginnings(g.start("expr"), c.tokens, c.count, nil, func(state string, l []api.Token) {
			count++
			wantExpr(t, g, state, l)
		})
		if count < 1000 {
			t.Errorf("%v: only %d", c.tokens, count)
		}
	}
}

// programs are texts in which each rule of the grammar is used in each of its forms.
func programs() []string {
	return []string{
		"node f ( ) returns ( ) ; let tel",
		"node f ( a : int ) returns ( b : bool ) ; let b = true ; tel",
		"node f ( a : int ; b : bool ; c : int ) returns ( d : bool ; e : int ) ; var g : int ; let d = false fby b ; e = 3 fby a ; g = - 3 fby a ; tel",
		"node f ( ) returns ( ) ; var a : int when c ; b : bool unless c ; c : bool ; let a = pre a ; b = true fby not b ; c = - 1 ; c = - 1 - 1 ; tel",
		"node f ( ) returns ( x : int ) ; let x = 1 -> 2 when c ; x = ( - 1 ) ; x = true ; x = true & x ; x = if a then b else c ; x = merge c 1 ( 2 ) ; tel",
		"node f ( ) returns ( x : int ) ; let x = 1 fby - 1 ; x = - 1 fby 1 ; x = pre - 1 ; x = pre true ; x = if c then if d then e else f < g < h ; x = 5 ; tel",
	}
}

// P13.1: at each place of the programs, each token.
func TestParseFollowsTheGrammar(t *testing.T) {
	g := newGrammar()
	for _, s := range programs() {
		words := strings.Fields(s)
		for i := range len(words) + 1 {
			wantParse(t, g, strings.Join(words[:i], " "))
			for _, c := range classes() {
				begin := append(slices.Clone(words[:i]), tokenOf(c, 0).Text)
				wantParse(t, g, strings.Join(begin, " "))
				wantParse(t, g, strings.Join(append(begin, words[i:]...), " "))
				if i < len(words) {
					wantParse(t, g, strings.Join(append(begin[:i+1:i+1], words[i+1:]...), " "))
				}
			}
			if i < len(words) {
				wantParse(t, g, strings.Join(slices.Delete(slices.Clone(words), i, i+1), " "))
			}
		}
	}
}

// wantParse compares where Parse refuses a text with the grammar.
func wantParse(t *testing.T, g *grammar, s string) {
	t.Helper()
	s += " \n"
	l, e, at := lex.Scan(s)
	if e != api.OK {
		t.Fatal(s, e, at)
	}
	n, complete := g.longest("program", l)
	want, wantAt := api.ErrToken, len(s)
	if n < len(l) {
		wantAt = l[n].At
	} else if complete {
		want, wantAt = api.OK, 0
	}
	p, e, at := Parse(s)
	if e != want || at != wantAt {
		t.Fatalf("Parse(%q) = %d, %d, want %d, %d", s, e, at, want, wantAt)
	}
	if e != api.OK && !Same(p, api.Program{}) {
		t.Fatalf("Parse(%q): %v with an error", s, p)
	}
}

// P13.1: all beginnings of equations, of declarations and of programs.
func TestParseBeginnings(t *testing.T) {
	const header = "node f ( ) returns ( ) ; "
	for _, c := range []struct {
		begin  string
		count  int
		tokens []string
	}{
		{"", 2, classes()},
		{"node f (", 3, classes()},
		{"node f (", 7, strings.Fields("NAME : int bool ; )")},
		{"node f ( ) returns (", 3, classes()},
		{header, 3, classes()},
		{header, 8, strings.Fields("var NAME : int when unless ; let tel")},
		{header + "let", 3, classes()},
		{header + "let", 7, strings.Fields("NAME = NUM - true fby pre ; tel")},
		{header + "let x =", 3, classes()},
		{header + "let x =", 5, strings.Fields("NAME NUM - false fby pre not ( ) ; tel")},
	} {
		g := newGrammar()
		l, _, _ := lex.Scan(c.begin)
		state := g.start("program")
		for _, k := range l {
			state = g.step(state, class(k))
		}
		g.beginnings(state, c.tokens, c.count, nil, func(_ string, more []api.Token) {
			wantParse(t, g, c.begin+" "+lex.Text(more))
		})
	}
}
