package expand

import (
	"hash/crc32"
	"scrimshaw/api"
	"scrimshaw/read"
	"strings"
	"testing"
)

// P7.1

func TestPrelude(t *testing.T) {
	l := Prelude()
	var heads []string
	for _, d := range l {
		name := d.List[1]
		if name.Kind == api.DatList {
			name = name.List[0]
		}
		heads = append(heads, d.List[0].Text+" "+name.Text)
	}
	want := "define-syntax let,define-syntax let*,define-syntax and,define-syntax or,define-syntax when,define-syntax unless,define-syntax cond,define-syntax do-step,define-syntax do,define-syntax list,define not,define >,define <=,define >=,define append,define reverse,define length,define list-tail,define map,define for-each,define equal?,define same?,define apply,define common,define unwind,define rewind,define dynamic-wind,define call/cc"
	if got := strings.Join(heads, ","); got != want {
		t.Errorf("%s", got)
	}
	// All of it, to the letter: as many bytes, and the same sum of them, as has what is read of the chapter's text, when it is written.
	s, wrong := read.Write(l)
	if len(s) != 3439 || crc32.ChecksumIEEE([]byte(s)) != 1580081739 || wrong != api.OK {
		t.Errorf("%d, %d, %v", len(s), crc32.ChecksumIEEE([]byte(s)), wrong)
	}
}

func TestPreludeIsAnewEachTime(t *testing.T) {
	a, b := Prelude(), Prelude()
	all := memory{}
	all.ofData(a)
	all.ofData(b)
	if all.shared() {
		t.Error("the prelude shares memory with itself")
	}
	was := rawAll(b)
	spoil(a)
	if rawAll(Prelude()) != was || rawAll(b) != was {
		t.Error("the prelude is another one")
	}
	want(t, "(let ((x 1)) (or x))", "(let ((v.0 (quote 1))) v.0)")
}

// spoil changes all the memory that data have.
func spoil(l []api.Datum) {
	for i := range l {
		spoil(l[i].List)
		l[i] = sym("spoilt")
	}
}

// A program's own definitions don't change what the prelude's mean.
func TestPreludeStandsByItself(t *testing.T) {
	const all = "(define (not x) 'no) (define (length l) 'many) (define (car x) 'first) (define (cons x y) 'both) (define let 1) (define if 2) (define (= x y) #f) (define-syntax cond (syntax-rules ())) (define-syntax begin (syntax-rules ())) (define-syntax lambda (syntax-rules ())) "
	wantRun(t, all+"(<= 1 2)", "#t")
	wantRun(t, all+"(apply + (append '(1) (reverse '(2))))", "3")
	wantRun(t, all+"(equal? '(1 #(2)) '(1 #(2)))", "#t")
	wantRun(t, all+"(or #f (list 5))", "(5)")
	wantRun(t, all+"(do ((i 0 (+ i 1))) ((> i 3) i) 5)", "4")
	wantRun(t, all+"(set! append 5) (apply list-tail (list '(1 2) 1))", "(2)")
	wantRun(t, "(set! list-tail 5) (apply + '(1 2))", "proc")
}
