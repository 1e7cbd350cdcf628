package box

import (
	"math/rand"
	"scrimshaw/api"
	"scrimshaw/core"
	"scrimshaw/model"
	"slices"
	"strconv"
	"strings"
	"testing"
)

// Continuations that are gone back to, and functions that are called later, are where it shows which variable is which. So expressions of these alone are grown: all variables are numbers that change, and are written; continuations and functions lie in vectors.

type tangler struct {
	*rand.Rand
	scope []string
}

func (g *tangler) pick(l ...string) string { return l[g.Intn(len(l))] }

func (g *tangler) number(in int) string { return strconv.Itoa(g.Intn(in)) }

// tangled is an expression that goes back some times.
func (g *tangler) tangled() string {
	g.scope = []string{"u"}
	return "(let ((backs (make-vector 2 (lambda (x) x))) (later (make-vector 2 (lambda () 0))) (left (cons " + g.number(8) + " 0)) (u 1)) (fix (" +
		"(keep (lambda (i n) (%callcc (lambda (k) (begin (vector-set! backs i k) n))))) " +
		"(back (lambda (i n) (if (< 0 (car left)) (begin (set-car! left (- (car left) 1)) ((vector-ref backs i) n)) 0)))" +
		") " + g.names(2) + "))"
}

// names is an expression that binds some.
func (g *tangler) names(depth int) string {
	names := []string{"a", "b", "c", "d"}
	g.Shuffle(len(names), func(i, j int) { names[i], names[j] = names[j], names[i] })
	names = names[:2+g.Intn(3)]
	var values, both []string
	for _, name := range names {
		values = append(values, g.value(depth-1))
		both = append(both, "("+name+" "+values[len(values)-1]+")")
	}
	was := g.scope
	g.scope = append(was[:len(was):len(was)], names...)
	body := g.body(depth - 1)
	g.scope = was
	switch g.Intn(4) {
	case 0:
		return "((lambda (" + strings.Join(names, " ") + ") " + body + ") " + strings.Join(values, " ") + ")"
	case 1:
		return "(fix ((f (lambda (" + strings.Join(names, " ") + ") " + body + "))) (f " + strings.Join(values, " ") + "))"
	}
	return "(let (" + strings.Join(both, " ") + ") " + body + ")"
}

func (g *tangler) value(depth int) string {
	switch g.Intn(6) {
	case 0:
		return g.number(9)
	case 1:
		return g.pick(g.scope...)
	case 2:
		if depth > 0 {
			return g.names(depth)
		}
	}
	return "(keep " + g.number(2) + " " + g.number(9) + ")"
}

// body has some effects, and writes what all variables are in the end.
func (g *tangler) body(depth int) string {
	var l []string
	for range 2 + g.Intn(4) {
		l = append(l, g.effect(depth))
	}
	l = append(l, g.back())
	for _, name := range g.scope {
		l = append(l, "(write-u8 "+name+")")
	}
	return "(begin " + strings.Join(l, " ") + " " + g.pick(g.scope...) + ")"
}

func (g *tangler) effect(depth int) string {
	name := g.pick(g.scope...)
	switch g.Intn(8) {
	case 0, 1:
		return "(set! " + name + " (+ " + name + " 1))"
	case 2:
		return "(set! " + name + " " + g.value(depth-1) + ")"
	case 3:
		return "(vector-set! later " + g.number(2) + " (lambda () (begin (set! " + name + " (+ " + name + " 1)) (write-u8 " + name + "))))"
	case 4:
		return "((vector-ref later " + g.number(2) + "))"
	case 5:
		if depth > 0 {
			return g.names(depth)
		}
	}
	return g.back()
}

func (g *tangler) back() string { return "(back " + g.number(2) + " " + g.number(9) + ")" }

func TestGoingBack(t *testing.T) {
	for seed := range 4 {
		t.Run(strconv.Itoa(seed), func(t *testing.T) {
			t.Parallel()
			g := &tangler{Rand: rand.New(rand.NewSource(int64(seed)))}
			ended, other := 0, 0
			for range 500 {
				s := g.tangled()
				if len(s) > 2000 {
					continue
				}
				e := of(s)
				wantBoxed(t, e, "")
				want := model.Run(e, "", enough)
				if want.Err == api.OK {
					ended++
				}
				if want.Err != api.ErrRunSteps && told(model.Run(atOnce(e), "", 8*enough)) != told(want) {
					other++
				}
			}
			if ended < 200 || other < 10 {
				t.Error(ended, other)
			}
		})
	}
}

// atOnce is a wrong way to box, by which all that an ExpLet binds is boxed at once: of the grown expressions enough must tell it from a right one.
func atOnce(e api.Expr) api.Expr {
	own := core.Rename(e)
	b := boxer{binders: map[string]int{}, sets: map[string]int{}}
	b.look(own)
	return b.atOnce(e, own)
}

func (b boxer) atOnce(e, own api.Expr) api.Expr {
	out := e
	out.Kids = slices.Clone(e.Kids)
	for i, kid := range e.Kids {
		out.Kids[i] = b.atOnce(kid, own.Kids[i])
	}
	switch {
	case e.Kind == api.ExpRef && b.sets[own.Name] > 0:
		return prim("%unbox", out)
	case e.Kind == api.ExpSet:
		return prim("%set-box!", ref(e.Name), out.Kids[0])
	case e.Kind == api.ExpLam:
		b.boxNames(out, own, len(out.Names))
	case e.Kind == api.ExpLet:
		b.boxNames(out, own, 0)
	}
	return out
}
