package lib

import (
	"strings"
	"unicode/utf8"

	"commonform/api"
	"commonform/heap"
)

// textRows are the functions of characters, strings and parts of sequences, with their arguments.
func textRows() []row {
	return []row{
		{"CHAR-CODE", "c"}, {"CODE-CHAR", "k"}, {"CHAR-UPCASE", "c"}, {"CHAR-DOWNCASE", "c"}, {"CHAR", "t k"},
		{"STRING=", "t t"}, {"STRING<", "t t"}, {"CONCAT", "t.."}, {"SUBSEQ", "q k [k]"}, {"STRING", "x"},
	}
}

func (w *World) textOperations() map[string]operation {
	return map[string]operation{
		"CHAR-CODE":     func(l []heap.Word) Answer { return values(fixnum(int(characterOf(l[0])))) },
		"CODE-CHAR":     w.codeChar,
		"CHAR-UPCASE":   func(l []heap.Word) Answer { return values(moved(l[0], 'a', 'A')) },
		"CHAR-DOWNCASE": func(l []heap.Word) Answer { return values(moved(l[0], 'A', 'a')) },
		"CHAR":          w.charAt,
		"STRING=":       func(l []heap.Word) Answer { return w.is(string(w.runes(l[0])) == string(w.runes(l[1]))) },
		"STRING<":       w.stringLess,
		"CONCAT":        w.concat,
		"SUBSEQ":        w.subseq,
		"STRING":        w.stringOf,
	}
}

func characterOf(x heap.Word) rune {
	c, _ := x.Character()
	return c
}

func character(c rune) heap.Word {
	x, _ := heap.Char(c)
	return x
}

// runes returns the characters of a string.
func (w *World) runes(x heap.Word) []rune { return []rune(w.text(x)) }

func (w *World) codeChar(l []heap.Word) Answer {
	x, e := heap.Char(rune(w.index(l[0], utf8.MaxRune+1)))
	if e != api.OK {
		return values(heap.Nil)
	}
	return values(x)
}

// moved returns a letter of the alphabet that begins with one letter as that of another one.
func moved(x heap.Word, from, to rune) heap.Word {
	c := characterOf(x)
	if c < from || c > from+'Z'-'A' {
		return x
	}
	return character(c - from + to)
}

func (w *World) charAt(l []heap.Word) Answer {
	all := w.runes(l[0])
	i := w.index(l[1], len(all))
	if i == len(all) {
		w.failType(l[1], "INTEGER")
	}
	return values(character(all[i]))
}

func (w *World) stringLess(l []heap.Word) Answer {
	a, b := w.runes(l[0]), w.runes(l[1])
	i := 0
	for i < len(a) && i < len(b) && a[i] == b[i] {
		i++
	}
	if i < len(b) && (i == len(a) || a[i] < b[i]) {
		return values(fixnum(i))
	}
	return values(heap.Nil)
}

func (w *World) concat(l []heap.Word) Answer {
	var text strings.Builder
	for _, x := range l {
		text.WriteString(w.text(x))
	}
	return values(w.newText(text.String()))
}

// subseq returns a part of a sequence.
func (w *World) subseq(l []heap.Word) Answer {
	length := w.length(l[0])
	beyond := length + 1
	from, to := w.index(l[1], beyond), length
	if from > length {
		w.failType(l[1], "INTEGER")
	}
	if len(l) > 2 {
		to = w.index(l[2], beyond)
		if to > length || to < from {
			w.failType(l[2], "INTEGER")
		}
	}
	x := l[0]
	switch {
	case w.isString(x):
		return values(w.newText(string(w.runes(x)[from:to])))
	case w.isBits(x):
		return values(made(w.heap.Raw(heap.KindBits, w.text(x)[from:to])))
	case w.isVector(x):
		return values(w.vector(w.fields(x)[from:to]))
	}
	return values(w.list(w.all(x)[from:to], heap.Nil))
}

func (w *World) stringOf(l []heap.Word) Answer {
	x := l[0]
	if w.isString(x) {
		return values(x)
	}
	if _, name, e := w.Name(x); e == api.OK {
		return values(w.newText(name))
	}
	c, ok := x.Character()
	if !ok {
		w.failType(x, "STRING")
	}
	return values(w.newText(string(c)))
}
