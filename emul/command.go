package emul

import (
	"bytes"

	"spyglass/api"
	"spyglass/links"
	"spyglass/utf"
)

// between stands between the parts of a command.
const between = ";"

// command does what a text tells.
func (t *Term) command(text []byte) {
	kind, rest, ok := bytes.Cut(text, []byte(between))
	if !ok {
		return
	}
	switch string(kind) {
	case "0", "2":
		t.title = titleOf(rest)
	case "8":
		if _, uri, ok := bytes.Cut(rest, []byte(between)); ok {
			t.lead(string(uri))
		}
	}
}

// titleOf is as much of a text as a title may have.
func titleOf(b []byte) string {
	var letters []rune
	for _, r := range utf.Runes(b) {
		if utf.Width(r) > 0 {
			letters = append(letters, r)
		}
	}
	title := string(letters)
	for i, r := range title {
		if i+len(string(r)) > api.MaxTitle {
			return title[:i]
		}
	}
	return title
}

// lead has the pen's letters lead to a link, or nowhere, if it may not be, as an empty one, or has no room.
func (t *Term) lead(uri string) {
	t.pen.Link = 0
	table, n, e := links.Intern(t.table, uri)
	if e == api.ErrFull {
		table, n, e = links.Intern(links.Sweep(t.table, t.used()), uri)
	}
	if e == api.OK {
		t.table, t.pen.Link = table, n
	}
}

// used are the numbers of links that the cells of both grids have, and the saved pen.
func (t *Term) used() []uint16 {
	used := []uint16{t.saved.pen.Link}
	for _, cells := range [][]api.Cell{t.main.Cells, t.other.Cells} {
		for _, c := range cells {
			used = append(used, c.Pen.Link)
		}
	}
	return used
}
