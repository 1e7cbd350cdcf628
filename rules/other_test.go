package rules

import (
	"scrimshaw/api"
	"scrimshaw/data"
	"strconv"
	"testing"
)

// The other way of the tests: a pattern and a template become nodes, in which dots are counted; a match is a flat table, by variable and by the turns in which it stands; a row is matched by trying out how many items are for what is repeated. It panics with an error.

type node struct {
	sort  int
	d     api.Datum
	kids  []node
	tail  []node
	stars int
}

const (
	isAtom = iota
	isVar
	isAny
	isDot
	isRow
	isEscape
)

type otherWay struct {
	r      api.Rules
	depths map[string]int
	datum  map[string]api.Datum
	count  map[string]int
	mark   string
	laid   int
}

func (o *otherWay) sortOf(d api.Datum) int {
	if d.Kind != api.DatSymbol {
		if d.Kind >= api.DatList {
			return isRow
		}
		return isAtom
	}
	if d.Text == o.r.Ellipsis {
		return isDot
	}
	for _, name := range o.r.Literals {
		if name == d.Text {
			return isAtom
		}
	}
	if d.Text == "_" {
		return isAny
	}
	return isVar
}

// nodes takes a datum apart; the dots are no node but count for the one ahead.
func (o *otherWay) nodes(d api.Datum, template, plain bool) node {
	n := node{sort: o.sortOf(d), d: d}
	if plain && n.sort == isDot {
		n.sort = isAtom
	}
	if n.sort == isDot {
		panic(api.ErrRulesForm)
	}
	if template && !plain && d.Kind == api.DatList && len(d.List) == 2 && o.sortOf(d.List[0]) == isDot {
		return node{sort: isEscape, kids: []node{o.nodes(d.List[1], true, true)}}
	}
	items := d.List
	if d.Kind == api.DatDotted {
		items = d.List[:len(d.List)-1]
		n.tail = []node{o.nodes(d.List[len(d.List)-1], template, plain)}
	}
	for _, item := range items {
		if plain || o.sortOf(item) != isDot {
			n.kids = append(n.kids, o.nodes(item, template, plain))
			continue
		}
		if len(n.kids) == 0 {
			panic(api.ErrRulesForm)
		}
		n.kids[len(n.kids)-1].stars++
	}
	return n
}

// pattern holds a node against what a pattern may be, and notes how deep variables are.
func (o *otherWay) pattern(n node, depth int) {
	if n.sort == isVar {
		if _, twice := o.depths[n.d.Text]; twice {
			panic(api.ErrRulesForm)
		}
		o.depths[n.d.Text] = depth
	}
	stars := 0
	for _, kid := range n.kids {
		stars += kid.stars
		o.pattern(kid, depth+kid.stars)
	}
	for _, kid := range n.tail {
		o.pattern(kid, depth)
	}
	if stars > 1 {
		panic(api.ErrRulesForm)
	}
}

// leaves are the depths of the variables within.
func (o *otherWay) leaves(n node) []string {
	if _, is := o.depths[n.d.Text]; is && n.d.Kind == api.DatSymbol {
		return []string{n.d.Text}
	}
	var l []string
	for _, kid := range append(append([]node{}, n.kids...), n.tail...) {
		l = append(l, o.leaves(kid)...)
	}
	return l
}

// deep tells whether the dots of a template go with its variables.
func (o *otherWay) deep(n node, gone int) bool {
	for star := range n.stars {
		some := false
		for _, name := range o.leaves(n) {
			some = some || o.depths[name] > gone+star
		}
		if !some {
			return false
		}
	}
	gone += n.stars
	if len(n.kids) == 0 && len(n.tail) == 0 {
		for _, name := range o.leaves(n) {
			if o.depths[name] > gone {
				return false
			}
		}
	}
	for _, kid := range append(append([]node{}, n.kids...), n.tail...) {
		if !o.deep(kid, gone) {
			return false
		}
	}
	return true
}

// ruleNodes are those of a rule's pattern and template.
func (o *otherWay) ruleNodes(x api.Rule) (node, node) {
	if data.Check(x.Pattern) != api.OK || data.Check(x.Template) != api.OK {
		panic(api.ErrRulesForm)
	}
	p := x.Pattern
	if p.Kind != api.DatList && p.Kind != api.DatDotted || len(p.List) == 0 || p.List[0].Kind != api.DatSymbol {
		panic(api.ErrRulesForm)
	}
	o.depths = map[string]int{}
	n := o.nodes(cut(p), false, false)
	o.pattern(n, 0)
	return n, o.nodes(x.Template, true, false)
}

// cut takes the first item away.
func cut(d api.Datum) api.Datum {
	if d.Kind == api.DatDotted && len(d.List) == 2 {
		return d.List[1]
	}
	return api.Datum{Kind: d.Kind, List: d.List[1:]}
}

func (o *otherWay) check() {
	if len(o.r.Rules) > 32 || len(o.r.Literals) > 32 {
		panic(api.ErrRulesMany)
	}
	seen := map[string]int{o.r.Ellipsis: 1}
	if !data.Name(o.r.Ellipsis) || o.r.Ellipsis == "_" {
		panic(api.ErrRulesForm)
	}
	for _, name := range o.r.Literals {
		seen[name]++
		if !data.Name(name) || seen[name] > 1 {
			panic(api.ErrRulesForm)
		}
	}
	fine := true
	for _, x := range o.r.Rules {
		_, template := o.ruleNodes(x)
		fine = fine && o.deep(template, 0)
	}
	if !fine {
		panic(api.ErrRulesDepth)
	}
}

func (o *otherWay) match(n node, d api.Datum, turns string) bool {
	switch n.sort {
	case isVar:
		o.datum[n.d.Text+turns] = d
		return true
	case isAny:
		return true
	case isAtom:
		return raw(n.d) == raw(d)
	}
	if n.d.Kind != api.DatDotted {
		return d.Kind == n.d.Kind && o.matchAll(n.kids, d.List, turns)
	}
	// The tail has none of the items if one ahead of it is repeated; else it has what is left.
	items := d.List
	if d.Kind == api.DatDotted {
		items = items[:len(items)-1]
	} else if d.Kind != api.DatList {
		items = nil
	}
	k := len(n.kids)
	for _, kid := range n.kids {
		if kid.stars > 0 {
			k = len(items)
		}
	}
	rest := d
	for i := 0; i < k && i < len(items); i++ {
		if rest.Kind == api.DatList && len(rest.List) == 1 {
			rest = list()
		} else {
			rest = cut(rest)
		}
	}
	return k <= len(items) && o.matchAll(n.kids, items[:k], turns) && o.match(n.tail[0], rest, turns)
}

func (o *otherWay) matchAll(nodes []node, items []api.Datum, turns string) bool {
	if len(nodes) == 0 {
		return len(items) == 0
	}
	first := nodes[0]
	if first.stars == 0 {
		return len(items) > 0 && o.match(first, items[0], turns) && o.matchAll(nodes[1:], items[1:], turns)
	}
	for k := len(items); k >= 0; k-- {
		all := o.matchAll(nodes[1:], items[k:], turns)
		for i := 0; i < k && all; i++ {
			all = o.match(first, items[i], turns+" "+strconv.Itoa(i))
		}
		if all {
			for _, name := range o.leaves(first) {
				o.count[name+turns] = k
			}
			return true
		}
	}
	return false
}

func (o *otherWay) lay(n int) {
	o.laid += n
	if o.laid > 4096 {
		panic(api.ErrRulesMany)
	}
}

func total(d api.Datum) int {
	n := 1
	for _, item := range d.List {
		n += total(item)
	}
	return n
}

// fill is given the turns so far: for one dots, for two, and so on.
func (o *otherWay) fill(n node, turns []string) api.Datum {
	if depth, is := o.depths[n.d.Text]; is && n.d.Kind == api.DatSymbol {
		d := o.datum[n.d.Text+turns[depth]]
		o.lay(total(d))
		return d
	}
	if n.sort == isEscape {
		return o.fill(n.kids[0], turns)
	}
	o.lay(1)
	if n.d.Kind == api.DatSymbol {
		return sym(o.mark + n.d.Text)
	}
	if n.sort == isAtom {
		return n.d
	}
	var items []api.Datum
	for _, kid := range n.kids {
		items = append(items, o.many(kid, kid.stars, turns)...)
	}
	if n.d.Kind != api.DatDotted {
		return api.Datum{Kind: n.d.Kind, List: items}
	}
	return data.Make(items, o.fill(n.tail[0], turns))
}

func (o *otherWay) many(n node, stars int, turns []string) []api.Datum {
	if stars == 0 {
		return []api.Datum{o.fill(n, turns)}
	}
	gone := len(turns) - 1
	k := -1
	for _, name := range o.leaves(n) {
		if o.depths[name] <= gone {
			continue
		}
		if c := o.count[name+turns[gone]]; k >= 0 && c != k {
			panic(api.ErrRulesUneven)
		} else {
			k = c
		}
	}
	var l []api.Datum
	for i := range k {
		next := append(append([]string{}, turns...), turns[gone]+" "+strconv.Itoa(i))
		l = append(l, o.many(n, stars-1, next)...)
	}
	return l
}

func (o *otherWay) expand(d api.Datum) api.Datum {
	o.check()
	if o.mark != "" && (!data.Name(o.mark) || len(o.mark) > 16) {
		panic(api.ErrRulesForm)
	}
	if data.Check(d) != api.OK || d.Kind != api.DatList && d.Kind != api.DatDotted || len(d.List) == 0 {
		panic(api.ErrRulesNone)
	}
	for _, x := range o.r.Rules {
		pattern, template := o.ruleNodes(x)
		o.datum, o.count = map[string]api.Datum{}, map[string]int{}
		if o.match(pattern, cut(d), "") {
			got := o.fill(template, []string{""})
			if data.Check(got) != api.OK {
				panic(api.ErrRulesMany)
			}
			return got
		}
	}
	panic(api.ErrRulesNone)
}

// other answers as Expand is to answer, and how many data it laid.
func other(r api.Rules, d api.Datum, mark string) (got api.Datum, laid int, e api.Errno) {
	o := otherWay{r: r, mark: mark}
	defer func() {
		if p := recover(); p != nil {
			got, laid, e = api.Datum{}, o.laid, p.(api.Errno)
		}
	}()
	got = o.expand(d)
	return got, o.laid, api.OK
}

func otherCheck(r api.Rules) (e api.Errno) {
	o := otherWay{r: r}
	defer func() {
		if p := recover(); p != nil {
			e = p.(api.Errno)
		}
	}()
	o.check()
	return api.OK
}

func TestTheOtherWay(t *testing.T) {
	for _, c := range [][4]string{
		{"(m (a b ...) ...)", "((b ... a) ...)", "(m (1 2 3) (4))", "((2 3 1) (4))"},
		{"(m (a b ...) ...)", "((a b) ... ...)", "(m (1 2 3) (4))", "((1 2) (1 3))"},
		{"(m x ... y . z)", "(y x ... . z)", "(m 1 2 . 3)", "(2 1 . 3)"},
		{"(m x)", "(x (... ...))", "(m 1)", "(1 ~...)"},
	} {
		if d, _, e := other(made(c[0], c[1]), of(c[2]), "~"); told(d) != c[3] || e != api.OK {
			t.Errorf("%v: %s, %v", c, told(d), e)
		}
	}
}
