package print

import "slices"

// part is a text, or what makes the parts of which a text consists. They are made one by one, by text, because what is printed may be nested deeper than calls may be.
type part struct {
	text  string
	parts func() []part
}

// text: the text of parts in a row.
func text(row []part) string {
	var out []byte
	todo := pushed(nil, row)
	for len(todo) > 0 {
		last := len(todo) - 1
		p := todo[last]
		todo = todo[:last]
		out = append(out, p.text...)
		if p.parts != nil {
			todo = pushed(todo, p.parts())
		}
	}
	return string(out)
}

// pushed: a stack with a row on it, the first part on top.
func pushed(todo, row []part) []part {
	for _, p := range slices.Backward(row) {
		todo = append(todo, p)
	}
	return todo
}

func plain(s string) []part {
	return []part{{text: s}}
}

// joined: what stands for each of l, with a text between each two.
func joined[T any](l []T, between string, one func(T) part) []part {
	var row []part
	for i, x := range l {
		if i > 0 {
			row = append(row, part{text: between})
		}
		row = append(row, one(x))
	}
	return row
}

// laid: what stands for each of l, where the first text is ahead of the first one, the second text ahead of the second one, and the last text at the end.
func laid[T any](l []T, one func(T) part, texts ...string) []part {
	var row []part
	for i, s := range texts {
		row = append(row, part{text: s})
		if i < len(texts)-1 && i < len(l) {
			row = append(row, one(l[i]))
		}
	}
	return row
}

func enclosed(row []part) []part {
	return slices.Concat(plain("("), row, plain(")"))
}
