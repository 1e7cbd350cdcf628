package expand

import (
	"regexp"
	"scrimshaw/api"
	"scrimshaw/core"
	"scrimshaw/data"
	"scrimshaw/rules"
	"slices"
	"strconv"
	"strings"
)

// The other way of the tests: what comes of a datum is a text; what a symbol means is a text, too, found in rows of pairs; a place's data are gone over by calling again with what begin brings in front. An error is a panic.

type otherWrong struct {
	at    int
	errno api.Errno
}

type otherPlace struct {
	up    *otherPlace
	pairs [][2]string
}

// otherMade is an expression's text; of a lambda also its parameters and its body.
type otherMade struct {
	text, body string
	params     []string
	lambda     bool
}

type otherMacro struct {
	rules api.Rules
	at    *otherPlace
}

type otherThing struct {
	name    string
	datum   api.Datum
	none    bool // it was no definition
	at      int
	ofMacro bool
}

type otherWay struct {
	counts                 bool
	fuel, uses, begun, now int
	numbers                int
	waits                  bool // whether the last thing takes its number only if there is one behind it
	kept                   []*otherPlace
	macros                 []otherMacro
	constants              []otherThing
}

var (
	aliasForm = regexp.MustCompile(`^~([0-9]+)~(.+)$`)
	otherForm = []string{"quote", "lambda", "if", "set!", "begin", "define", "define-syntax", "syntax-rules", "let-syntax", "letrec-syntax", "letrec"}
)

func (o *otherWay) fail(errno api.Errno) { panic(otherWrong{o.now, errno}) }

func (o *otherWay) check(is bool, errno api.Errno) {
	if !is {
		o.fail(errno)
	}
}

// otherAlias is a symbol's number and original, or nil.
func otherAlias(s string) []string {
	if s[0] != '~' {
		return nil
	}
	return aliasForm.FindStringSubmatch(s)[1:]
}

func otherRoot(s string) string {
	for otherAlias(s) != nil {
		s = otherAlias(s)[1]
	}
	return s
}

func otherChanged(d api.Datum, change func(string) string) api.Datum {
	if d.Kind == api.DatSymbol {
		return sym(change(d.Text))
	}
	if d.Kind < api.DatList {
		return d
	}
	out := api.Datum{Kind: d.Kind}
	for _, item := range d.List {
		out.List = append(out.List, otherChanged(item, change))
	}
	return out
}

// means is "" of no meaning; else its kind and what it is.
func (o *otherWay) means(s string, p *otherPlace) string {
	for q := p; q != nil; q = q.up {
		for _, both := range q.pairs {
			if both[0] == s {
				return both[1]
			}
		}
	}
	if m := otherAlias(s); m != nil {
		n, _ := strconv.Atoi(m[0])
		return o.means(m[1], o.kept[n])
	}
	if slices.Contains(otherForm, s) {
		return "form " + s
	}
	if core.Arity(s) >= 0 {
		return "prim " + s
	}
	return ""
}

func (o *otherWay) head(d api.Datum, p *otherPlace) (string, string) {
	if (d.Kind == api.DatList || d.Kind == api.DatDotted) && len(d.List) > 0 && d.List[0].Kind == api.DatSymbol {
		kind, what, _ := strings.Cut(o.means(d.List[0].Text, p), " ")
		if d.Kind == api.DatList || kind == "macro" {
			return kind, what
		}
	}
	return "", ""
}

func (o *otherWay) name(root string) string {
	o.numbers++
	return root + "." + strconv.Itoa(o.numbers-1)
}

func (o *otherWay) bind(p *otherPlace, s string) string {
	name := o.name(otherRoot(s))
	p.pairs = append(p.pairs, [2]string{s, "var " + name})
	return name
}

func (p *otherPlace) has(s string) bool {
	return slices.ContainsFunc(p.pairs, func(both [2]string) bool { return both[0] == s })
}

func (o *otherWay) bindMacro(p *otherPlace, s string, r api.Datum, at *otherPlace) {
	m := otherMacro{o.rulesOf(r, at), at}
	o.macros = append(o.macros, m)
	p.pairs = append(p.pairs, [2]string{s, "macro " + strconv.Itoa(len(o.macros)-1)})
}

func (o *otherWay) rulesOf(d api.Datum, p *otherPlace) api.Rules {
	kind, what := o.head(d, p)
	o.check(kind+what == "formsyntax-rules", api.ErrExpandForm)
	l := d.List[1:]
	r := api.Rules{Ellipsis: "..."}
	word := ""
	if len(l) > 0 && l[0].Kind == api.DatSymbol {
		word = l[0].Text
		r.Ellipsis = otherRoot(word)
		l = l[1:]
	}
	o.check(len(l) > 0 && l[0].Kind == api.DatList, api.ErrExpandForm)
	for _, s := range l[0].List {
		o.check(s.Kind == api.DatSymbol, api.ErrExpandForm)
		r.Literals = append(r.Literals, otherRoot(s.Text))
	}
	clean := func(d api.Datum) api.Datum {
		d = otherChanged(d, func(s string) string {
			if strings.HasSuffix("~"+s, "~...") || strings.HasSuffix("~"+s, "~_") {
				return otherRoot(s)
			}
			return s
		})
		return otherChanged(d, func(s string) string {
			if word != "" && s == word {
				return otherRoot(s)
			}
			return s
		})
	}
	for _, both := range l[1:] {
		o.check(both.Kind == api.DatList && len(both.List) == 2, api.ErrExpandForm)
		r.Rules = append(r.Rules, api.Rule{Pattern: clean(both.List[0]), Template: clean(both.List[1])})
	}
	if errno := rules.Check(r); errno != api.OK {
		o.fail(errno)
	}
	return r
}

func (o *otherWay) unfold(d api.Datum, p *otherPlace) api.Datum {
	kind, what := o.head(d, p)
	if kind != "macro" {
		return d
	}
	if o.counts {
		o.uses++
		o.check(o.uses <= o.fuel, api.ErrExpandFuel)
	}
	n, _ := strconv.Atoi(what)
	m := o.macros[n]
	o.kept = append(o.kept, p, m.at)
	first := strconv.Itoa(len(o.kept) - 2)
	second := strconv.Itoa(len(o.kept) - 1)
	use := otherChanged(d, func(s string) string {
		for _, literal := range m.rules.Literals {
			a, b := o.means(s, p), o.means(literal, m.at)
			if a == b && (a != "" || otherRoot(s) == literal) {
				return literal
			}
		}
		if slices.Contains(m.rules.Literals, s) {
			return "~" + first + "~" + s
		}
		return s
	})
	use.List[0] = d.List[0]
	made, errno := rules.Expand(m.rules, use, "~"+second+"~")
	if errno != api.OK {
		o.fail(errno)
	}
	return o.unfold(made, p)
}

func (o *otherWay) count() {
	if o.counts {
		o.begun++
		o.check(o.begun <= 4096, api.ErrExpandMany)
	}
}

func (o *otherWay) texts(l []api.Datum, p *otherPlace) string {
	out := ""
	for _, d := range l {
		out += " " + o.expand(d, p).text
	}
	return out
}

func (o *otherWay) expand(d api.Datum, p *otherPlace) otherMade {
	d = o.unfold(d, p)
	o.count()
	switch d.Kind {
	case api.DatSymbol:
		return o.symbol(d.Text, p)
	case api.DatList:
		o.check(len(d.List) > 0, api.ErrExpandForm)
	case api.DatDotted:
		o.fail(api.ErrExpandForm)
	default:
		return o.constant(d)
	}
	others := d.List[1:]
	switch kind, what := o.head(d, p); kind {
	case "form":
		return o.form(what, others, p)
	case "prim":
		o.check(len(others) == core.Arity(what), api.ErrExpandCount)
		return otherMade{text: "(prim " + what + o.texts(others, p) + ")"}
	}
	o.check(len(others) <= 6, api.ErrExpandCount)
	first := o.expand(d.List[0], p)
	var rest []string
	for _, item := range others {
		rest = append(rest, o.expand(item, p).text)
	}
	if first.lambda && len(first.params) == len(rest) {
		return otherMade{text: otherBound("let", first.params, rest, first.body)}
	}
	return otherMade{text: "(call " + strings.Join(append([]string{first.text}, rest...), " ") + ")"}
}

func otherBound(word string, names, values []string, body string) string {
	out := "(" + word + " ("
	for i, name := range names {
		if i > 0 {
			out += " "
		}
		out += "(" + name + " " + values[i] + ")"
	}
	return out + ") " + body + ")"
}

func otherLambda(params []string, body string) otherMade {
	return otherMade{text: "(lambda (" + strings.Join(params, " ") + ") " + body + ")", body: body, params: params, lambda: true}
}

func (o *otherWay) symbol(s string, p *otherPlace) otherMade {
	kind, what, _ := strings.Cut(o.means(s, p), " ")
	switch kind {
	case "var":
		return otherMade{text: what}
	case "prim":
		var params []string
		for range core.Arity(what) {
			params = append(params, o.name("p"))
		}
		return otherLambda(params, "(prim "+strings.Join(append([]string{what}, params...), " ")+")")
	case "":
		o.fail(api.ErrExpandFree)
	}
	o.fail(api.ErrExpandUse)
	return otherMade{}
}

func (o *otherWay) constant(d api.Datum) otherMade {
	d = otherChanged(d, otherRoot)
	if d.Kind != api.DatString && d.Kind != api.DatVector && len(d.List) == 0 {
		s, _ := data.Text(d)
		return otherMade{text: "(quote " + s + ")"}
	}
	name := o.name("c")
	o.constants = append(o.constants, otherThing{name: name, datum: d})
	return otherMade{text: name}
}

func (o *otherWay) form(word string, l []api.Datum, p *otherPlace) otherMade {
	shaped := false
	switch word {
	case "quote":
		shaped = len(l) == 1
	case "if":
		shaped = len(l) == 2 || len(l) == 3
	case "begin":
		shaped = len(l) >= 1
	case "set!":
		shaped = len(l) == 2 && l[0].Kind == api.DatSymbol
	case "lambda":
		shaped = len(l) >= 2 && l[0].Kind == api.DatList && !slices.ContainsFunc(l[0].List, func(d api.Datum) bool { return d.Kind != api.DatSymbol })
	case "letrec", "let-syntax", "letrec-syntax":
		shaped = len(l) >= 2 && l[0].Kind == api.DatList && !slices.ContainsFunc(l[0].List, func(d api.Datum) bool {
			return d.Kind != api.DatList || len(d.List) != 2 || d.List[0].Kind != api.DatSymbol
		})
	}
	o.check(shaped, api.ErrExpandForm)
	switch word {
	case "quote":
		return o.constant(l[0])
	case "if":
		text := o.texts(l, p)
		if len(l) == 2 {
			text += " (prim void)"
		}
		return otherMade{text: "(if" + text + ")"}
	case "begin":
		if len(l) == 1 {
			return o.expand(l[0], p)
		}
		return otherMade{text: "(begin" + o.texts(l, p) + ")"}
	case "set!":
		kind, what, _ := strings.Cut(o.means(l[0].Text, p), " ")
		o.check(kind != "", api.ErrExpandFree)
		o.check(kind == "var", api.ErrExpandUse)
		return otherMade{text: "(set! " + what + o.texts(l[1:], p) + ")"}
	}
	return o.binding(word, l, p)
}

func (o *otherWay) binding(word string, l []api.Datum, p *otherPlace) otherMade {
	var symbols []string
	var values []api.Datum
	for _, d := range l[0].List {
		if word != "lambda" {
			values = append(values, d.List[1])
			d = d.List[0]
		}
		symbols = append(symbols, d.Text)
	}
	o.check(word != "lambda" || len(symbols) <= 6, api.ErrExpandCount)
	for i, s := range symbols {
		o.check(!slices.Contains(symbols[:i], s), api.ErrExpandTwice)
	}
	inner := &otherPlace{up: p}
	if strings.HasSuffix(word, "-syntax") {
		at := map[string]*otherPlace{"let-syntax": p, "letrec-syntax": inner}[word]
		for i, s := range symbols {
			o.bindMacro(inner, s, values[i], at)
		}
		return o.body(l[1:], inner)
	}
	var names, texts []string
	for _, s := range symbols {
		names = append(names, o.bind(inner, s))
	}
	for _, d := range values {
		texts = append(texts, o.expand(d, inner).text)
	}
	body := o.body(l[1:], inner)
	if word == "lambda" {
		return otherLambda(names, body.text)
	}
	if len(names) == 0 {
		return body
	}
	return otherMade{text: otherBound("letrec", names, texts, body.text)}
}

// scan goes over data up to the first that is no definition; all is of those of a program, in which that is one, too.
func (o *otherWay) scan(l []api.Datum, p *otherPlace, all bool) ([]otherThing, []api.Datum) {
	if len(l) == 0 {
		return nil, nil
	}
	d, rest := o.unfold(l[0], p), l[1:]
	kind, what := o.head(d, p)
	if kind+what == "formbegin" {
		return o.scan(slices.Concat(d.List[1:], rest), p, all)
	}
	if o.waits {
		o.numbers, o.waits = o.numbers+1, false
	}
	thing := otherThing{at: o.now}
	switch {
	case kind+what == "formdefine" && len(d.List) == 3 && d.List[1].Kind == api.DatSymbol:
		o.check(!p.has(d.List[1].Text), api.ErrExpandTwice)
		thing.name, thing.datum = o.bind(p, d.List[1].Text), d.List[2]
	case kind+what == "formdefine" && len(d.List) >= 2 && d.List[1].Kind == api.DatList && len(d.List[1].List) > 0 && d.List[1].List[0].Kind == api.DatSymbol:
		s := d.List[1].List[0].Text
		o.check(!p.has(s), api.ErrExpandTwice)
		// A kind of its own, which no datum has, says that what stands in it is a lambda's.
		thing.name, thing.datum = o.bind(p, s), api.Datum{Kind: -1, List: slices.Concat(rows(list(d.List[1].List[1:]...)), d.List[2:])}
	case kind+what == "formdefine-syntax" && len(d.List) == 3 && d.List[1].Kind == api.DatSymbol:
		o.check(!p.has(d.List[1].Text), api.ErrExpandTwice)
		o.bindMacro(p, d.List[1].Text, d.List[2], p)
		thing.ofMacro = true
	case all:
		thing.name, thing.datum, thing.none = "e."+strconv.Itoa(o.numbers), d, true
		o.waits = true
	default:
		return nil, slices.Concat(rows(d), rest)
	}
	things, left := o.scan(rest, p, all)
	return slices.Concat([]otherThing{thing}, things), left
}

func (o *otherWay) values(l []otherThing, p *otherPlace) (names, texts []string) {
	for _, thing := range l {
		if thing.ofMacro {
			continue
		}
		o.now = thing.at
		names = append(names, thing.name)
		if thing.datum.Kind >= 0 {
			texts = append(texts, o.expand(thing.datum, p).text)
		} else {
			o.count()
			texts = append(texts, o.form("lambda", thing.datum.List, p).text)
		}
	}
	return names, texts
}

func (o *otherWay) body(l []api.Datum, up *otherPlace) otherMade {
	p := &otherPlace{up: up}
	things, left := o.scan(l, p, false)
	o.check(len(left) > 0, api.ErrExpandForm)
	names, texts := o.values(things, p)
	var last otherMade
	if len(left) == 1 {
		last = o.expand(left[0], p)
	} else {
		last.text = "(begin" + o.texts(left, p) + ")"
	}
	if len(names) == 0 {
		return last
	}
	return otherMade{text: otherBound("letrec", names, texts, last.text)}
}

func (o *otherWay) building(d api.Datum) string {
	parts := []string{}
	name, making := "", ""
	switch {
	case d.Kind == api.DatString:
		name, making = o.name("s"), "(prim make-string (quote "+strconv.Itoa(len(d.Text))+") (quote #\\x00))"
		for _, b := range []byte(d.Text) {
			s, _ := data.Text(api.Datum{Kind: api.DatChar, Int: int(b)})
			parts = append(parts, "(prim string-set! "+name+" (quote "+strconv.Itoa(len(parts))+") (quote "+s+"))")
		}
	case d.Kind == api.DatVector:
		name, making = o.name("w"), "(prim make-vector (quote "+strconv.Itoa(len(d.List))+") (quote #f))"
		for _, item := range d.List {
			parts = append(parts, "(prim vector-set! "+name+" (quote "+strconv.Itoa(len(parts))+") "+o.building(item)+")")
		}
	case len(d.List) == 0:
		return o.constant(d).text
	case d.Kind == api.DatDotted && len(d.List) == 2:
		return "(prim cons " + o.building(d.List[0]) + " " + o.building(d.List[1]) + ")"
	default:
		return "(prim cons " + o.building(d.List[0]) + " " + o.building(api.Datum{Kind: d.Kind, List: d.List[1:]}) + ")"
	}
	body := name
	if len(parts) > 0 {
		body = "(begin " + strings.Join(parts, " ") + " " + name + ")"
	}
	return otherBound("let", []string{name}, []string{making}, body)
}

// stands tells whether a name stands in a text: a name is one of a variable, and no two variables have the same; in what is quoted the programs of the tests have no such.
func stands(name, text string) bool {
	for _, before := range []string{" ", "("} {
		for _, behind := range []string{" ", ")"} {
			if strings.Contains(" "+text+" ", before+name+behind) {
				return true
			}
		}
	}
	return false
}

func (o *otherWay) program(l []api.Datum) (string, int) {
	prelude := &otherPlace{}
	own := &otherPlace{up: prelude}
	given, _ := o.scan(Prelude(), prelude, true)
	o.counts = true
	var things []otherThing
	for i, d := range l {
		o.now = i
		more, _ := o.scan(rows(d), own, true)
		things = append(things, more...)
	}
	o.counts, o.waits = false, false
	known, values := o.values(given, prelude)
	o.counts = true
	names, texts := o.values(things, own)
	o.now = len(l)
	result := "(prim void)"
	if n := len(things); n > 0 && things[n-1].none {
		result = texts[len(texts)-1]
		names, texts = names[:len(names)-1], texts[:len(texts)-1]
	}
	all := strings.Join(append(slices.Clone(texts), result), " ")
	needed := make([]bool, len(known))
	for again := true; again; {
		again = false
		for i, name := range known {
			if !needed[i] && stands(name, all) {
				needed[i], again = true, true
				all += " " + values[i]
			}
		}
	}
	for i := len(known) - 1; i >= 0; i-- {
		if needed[i] {
			names, texts = slices.Insert(names, 0, known[i]), slices.Insert(texts, 0, values[i])
		}
	}
	if len(names) > 0 {
		result = otherBound("letrec", names, texts, result)
	}
	var heads, buildings []string
	for _, c := range o.constants {
		heads = append(heads, c.name)
		buildings = append(buildings, o.building(c.datum))
	}
	if len(heads) > 0 {
		result = otherBound("let", heads, buildings, result)
	}
	return result, o.uses
}

func otherProgram(l []api.Datum, fuel int) (text string, n int, errno api.Errno) {
	o := &otherWay{fuel: fuel}
	defer func() {
		if w, is := recover().(otherWrong); is {
			text, n, errno = "", w.at, w.errno
		}
	}()
	o.check(0 <= fuel && fuel <= 2000, api.ErrArg)
	for i, d := range l {
		o.now = i
		if errno := data.Check(d); errno != api.OK {
			o.fail(errno)
		}
		otherChanged(d, func(s string) string {
			o.check(len(s) <= 40 && strings.Count(s, "~") == 0, api.ErrExpandName)
			return s
		})
	}
	text, n = o.program(l)
	if !mayBe(text) {
		o.now = len(l)
		o.fail(api.ErrExpandMany)
	}
	return text, n, api.OK
}

// mayBe tells whether a text is that of an expression that may be.
func mayBe(text string) bool {
	_, is := parsed(text)
	return is
}

// parsed is the expression of a text, however deep it is, if it may be.
func parsed(text string) (api.Expr, bool) {
	tokens := regexp.MustCompile(`#\\.[^\s()]*|[()]|[^\s()]+`).FindAllString(text, -1)
	at := 0
	var datum func() api.Datum
	datum = func() api.Datum {
		at++
		s := tokens[at-1]
		if s == "(" {
			out := api.Datum{Kind: api.DatList}
			for tokens[at] != ")" {
				out.List = append(out.List, datum())
			}
			at++
			return out
		}
		return of(s)[0]
	}
	e, errno := core.Make(datum())
	return e, errno == api.OK
}
