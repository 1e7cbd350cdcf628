package model

import (
	"scrimshaw/api"
	"strconv"
	"strings"
	"testing"
)

func TestReadU8(t *testing.T) {
	var all strings.Builder
	for n := range 256 {
		b := string([]byte{byte(n)})
		all.WriteString(b)
		wantWritten(t, "(read-u8)", b, strconv.Itoa(n), "", 1)
	}
	wantWritten(t, "(read-u8)", "", "eof", "", 1)
	wantWritten(t, "(cons (read-u8) (cons (read-u8) (cons (read-u8) (read-u8))))", "ab", "(97 98 eof . eof)", "", 7)
	wantWritten(t, "(eof-object? (read-u8))", "", "#t", "", 2)
	wantWritten(t, "(eof-object? (read-u8))", "\x00", "#f", "", 2)
	// Each byte is one, whatever text they make.
	wantWritten(t, "(cons (read-u8) (cons (read-u8) (read-u8)))", "\xc3\xa4", "(195 164 . eof)", "", 5)
	echo := of("(letrec ((loop (lambda (b) (if (eof-object? b) 'end (begin (write-u8 b) (loop (read-u8))))))) (loop (read-u8)))")
	wantShown(t, echo, all.String(), "end", all.String())
	long := strings.Repeat(all.String(), 300)
	wantShown(t, echo, long, "end", long)
}

func TestWriteU8(t *testing.T) {
	for n := range 256 {
		wantWritten(t, "(write-u8 "+strconv.Itoa(n)+")", "", "void", string([]byte{byte(n)}), 2)
	}
	for _, n := range []int{-1, -256, 256, 257, 511, 512, 1000, 1 << 32, 1<<32 + 65, api.MaxInt, -api.MaxInt - 1} {
		wantWrong(t, "(begin (write-u8 65) (write-u8 "+strconv.Itoa(n)+") (write-u8 66))", "", api.ErrRunRange, "A", 5)
	}
	for _, s := range []string{"#f", "#t", "#\\a", "'a", "'()", "(void)", "(%unset)", "(lambda () 65)", "(read-u8)"} {
		wantWrong(t, "(begin (write-u8 65) (write-u8 "+s+") (write-u8 66))", "", api.ErrRunType, "A", 5)
	}
	wantWrong(t, "(write-u8 (cons 65 66))", "", api.ErrRunType, "", 4)
	wantWrong(t, "(write-u8 (%box 65))", "", api.ErrRunType, "", 3)
	wantWrong(t, "(write-u8 (error))", "", api.ErrRunUser, "", 2)
}

func TestError(t *testing.T) {
	wantWrong(t, "(error)", "", api.ErrRunUser, "", 1)
	wantWrong(t, "(begin (write-u8 65) (write-u8 (read-u8)) (error) (write-u8 67))", "B", api.ErrRunUser, "AB", 6)
	wantWrong(t, "(let ((f (lambda (x) (+ 1 (error))))) (+ (f 1) (f 2)))", "", api.ErrRunUser, "", 9)
}

func TestWinders(t *testing.T) {
	wantValue(t, "(%winders)", "()", 1)
	wantValue(t, "(%wind! 5)", "void", 2)
	for _, s := range []string{"#f", "0", "'a", "'()"} {
		wantValue(t, "(begin (%wind! 5) (%wind! "+s+") (%winders))", strings.TrimPrefix(s, "'"), 6)
	}
	wantValue(t, "(begin (%wind! (cons 1 (%winders))) (%wind! (cons 2 (%winders))) (%winders))", "(2 1)", 10)
	wantValue(t, "(begin (%wind! (void)) (eq? (%winders) (%winders)))", "#t", 6)
	// They are no variable: a call leaves them, and a function changes them.
	wantValue(t, "(let ((f (lambda (x) (%wind! x)))) (begin (f 1) (cons (%winders) (begin (f 2) (%winders)))))", "(1 . 2)", 17)
}

// Of each other primitive what the heap makes of it, and its errors.
func TestPrimitivesOfTheHeap(t *testing.T) {
	for s, shown := range map[string]string{
		"(+ 1 2)": "3", "(- 1 2)": "-1", "(* 3 4)": "12", "(quotient -7 2)": "-3", "(remainder -7 2)": "-1", "(< 1 2)": "#t", "(= 1 2)": "#f", "(eq? 1 1)": "#t", "(cons 1 2)": "(1 . 2)",
		"(null? '())": "#t", "(pair? '())": "#f", "(vector? 0)": "#f", "(string? 0)": "#f", "(symbol? 'a)": "#t", "(char? #\\a)": "#t", "(integer? 1)": "#t", "(boolean? #f)": "#t", "(procedure? (lambda () 1))": "#t", "(eof-object? (read-u8))": "#t",
		"(char->integer #\\a)": "97", "(integer->char 97)": "#\\a", "(%box 1)": "box", "(%unbox (%box 7))": "7", "(make-vector 3 1)": "#(1 1 1)", "(make-string 3 #\\a)": "\"aaa\"", "(car (cons 1 2))": "1", "(cdr (cons 1 2))": "2",
		"(vector-length (make-vector 5 0))": "5", "(string-length (make-string 6 #\\a))": "6", "(vector-ref (make-vector 5 7) 4)": "7", "(string-ref (make-string 6 #\\a) 5)": "#\\a", "(void)": "void", "(%unset)": "unset",
		"(let ((x (cons 1 2))) (begin (set-car! x 3) (set-cdr! x 4) x))": "(3 . 4)", "(let ((x (make-vector 2 0))) (begin (vector-set! x 1 x) (vector-set! x 1 5) x))": "#(0 5)",
		"(let ((x (make-string 2 #\\a))) (begin (string-set! x 1 #\\b) x))": "\"ab\"", "(let ((x (%box 1))) (begin (%set-box! x 2) (%unbox x)))": "2", "(set-car! (cons 1 2) 3)": "void",
	} {
		wantShown(t, of(s), "", shown, "")
	}
	for s, wrong := range map[string]api.Errno{
		"(car 1)": api.ErrRunType, "(car '())": api.ErrRunType, "(+ 1 'a)": api.ErrRunType, "(vector-ref (make-vector 2 0) 2)": api.ErrRunRange, "(vector-ref (make-vector 2 0) -1)": api.ErrRunRange, "(quotient 1 0)": api.ErrRunZero, "(remainder 1 0)": api.ErrRunZero,
		"(+ 1152921504606846975 1)": api.ErrRunOver, "(- -1152921504606846976 1)": api.ErrRunOver, "(* 1152921504606846975 2)": api.ErrRunOver, "(quotient -1152921504606846976 -1)": api.ErrRunOver, "(make-vector 1001 0)": api.ErrRunRange, "(make-string -1 #\\a)": api.ErrRunRange, "(integer->char 256)": api.ErrRunRange,
		"(string-set! (make-string 1 #\\a) 0 1)": api.ErrRunType, "(%unbox (lambda () 1))": api.ErrRunType, "(vector-set! (make-vector 1 0) 1 1)": api.ErrRunRange, "(string-ref (make-string 0 #\\a) 0)": api.ErrRunRange,
	} {
		e := of("(begin (write-u8 65) " + s + " (write-u8 66))")
		wantOutcome(t, e, "", 100, outcome(wrong, "", "A", Run(e, "", 100).Steps))
	}
}

// Each primitive's arguments are evaluated in order, each as often as it stands there; then the primitive does what it does.
func TestPrimitivesArguments(t *testing.T) {
	texts := map[byte]string{'n': "1", 'c': "#\\a", 'p': "(cons 1 2)", 'v': "(make-vector 2 0)", 's': "(make-string 2 #\\a)", 'b': "(%box 1)", 'f': "(lambda (k) 0)"}
	steps := map[byte]int{'n': 1, 'c': 1, 'p': 3, 'v': 3, 's': 3, 'b': 2, 'f': 1}
	count := 0
	for _, line := range strings.Split("nn:+ - * quotient remainder < = eq? cons;n:null? pair? vector? string? symbol? char? integer? boolean? procedure? eof-object? write-u8 integer->char %box %wind!;p:car cdr;pn:set-car! set-cdr!;nn:make-vector;nc:make-string;v:vector-length;vn:vector-ref;vnn:vector-set!;s:string-length;sn:string-ref;snc:string-set!;c:char->integer;b:%unbox;bn:%set-box!;f:%callcc;:read-u8 void %winders %unset", ";") {
		letters, prims, _ := strings.Cut(line, ":")
		for _, p := range strings.Fields(prims) {
			count++
			text, want, output := "("+p, 1, ""
			for i := range len(letters) {
				output += string([]byte{byte(65 + i)})
				text += " (begin (write-u8 " + strconv.Itoa(65+i) + ") " + texts[letters[i]] + ")"
				want += 3 + steps[letters[i]]
			}
			// The argument that fails is evaluated where nothing is done yet.
			for i := range len(letters) {
				wrong := strings.Replace(text, strconv.Itoa(65+i)+") ", strconv.Itoa(65+i)+") (error) ", 1) + ")"
				if got := Run(of(wrong), "", 1000); got.Err != api.ErrRunUser || got.Output != output[:i+1] {
					t.Errorf("%s: %s", wrong, told(got))
				}
			}
			switch p {
			case "write-u8":
				output += "\x01"
			case "%callcc":
				want++
			}
			if got := Run(of(text+")"), "", 1000); got.Err != api.OK || got.Output != output || got.Steps != want {
				t.Errorf("%s): %s; want %q, %d", text, told(got), output, want)
			}
		}
	}
	// All but one that has none, and ends the run.
	if count != 5+21+16+2-1 {
		t.Error(count)
	}
}
