package expand

import (
	"scrimshaw/api"
	"strconv"
	"strings"
)

const (
	tilde = "~" // no program's own symbol has one
	dots  = "..."
	blank = "_"
)

// mark is what an alias has ahead of its original.
func mark(number int) string { return tilde + strconv.Itoa(number) + tilde }

// original is what an alias is of, and the number of the place that was kept; false of a symbol that is no alias.
func original(s string) (string, int, bool) {
	if !strings.HasPrefix(s, tilde) {
		return "", 0, false
	}
	digits, of, _ := strings.Cut(s[len(tilde):], tilde)
	number, _ := strconv.Atoi(digits)
	return of, number, true
}

// root is what is left of a symbol without its marks: each of them ends with a tilde, and nothing else has one.
func root(s string) string { return s[strings.LastIndex(s, tilde)+len(tilde):] }

// changed is a datum in which each symbol is another one.
func changed(d api.Datum, change func(string) string) api.Datum {
	out := api.Datum{Kind: d.Kind, Int: d.Int, Text: d.Text, List: changedAll(d.List, change)}
	if d.Kind == api.DatSymbol {
		out.Text = change(d.Text)
	}
	return out
}

func changedAll(l []api.Datum, change func(string) string) []api.Datum {
	var out []api.Datum
	for _, d := range l {
		out = append(out, changed(d, change))
	}
	return out
}

func stripped(d api.Datum) api.Datum { return changed(d, root) }
