package list

import "switchback/api"

// reader reads a text's lines.
type reader struct {
	text   string
	ops    map[string]int
	begin  int   // where the word begins that is read, or none
	remark bool  // what is read says nothing up to the line's end
	words  []any // of the line that is read
	lines  []api.Line
	count  int // of lines that say something
	number int // of the line that is read
	wrong  bool
}

const none = -1

// most is how many words a line has at most: those of a table.
const most = 2 + api.MaxTable

func newReader(s string) *reader {
	return &reader{text: s, ops: opsByName(), begin: none}
}

// read goes through the text, up to the first line that is wrong.
func (r *reader) read() {
	for at, c := range r.text {
		r.take(at, c)
		if r.wrong {
			return
		}
	}
	r.take(len(r.text), '\n')
}

func (r *reader) take(at int, c rune) {
	switch {
	case c == '\n':
		r.endWord(at)
		r.endLine()
	case c == ';' || c == ' ' || c == '\t':
		r.endWord(at)
		r.remark = r.remark || c == ';'
	case r.begin == none && !r.remark:
		r.begin = at
	}
}

// endWord ends the word that is read, if there is one. Of words that are too many one tells it.
func (r *reader) endWord(at int) {
	if r.begin == none {
		return
	}
	if len(r.words) <= most {
		r.words = append(r.words, wordOf(r.text[r.begin:at], r.ops))
	}
	r.begin = none
}

// endLine ends the line that is read. Lines that are too many are read, too, since one of them may be wrong.
func (r *reader) endLine() {
	if len(r.words) > 0 {
		x, is := lineOf(r.words)
		if !is {
			r.wrong = true
			return
		}
		r.count++
		if r.count <= api.MaxLines {
			r.lines = append(r.lines, x)
		}
	}
	r.words, r.remark = r.words[:0], false
	r.number++
}
