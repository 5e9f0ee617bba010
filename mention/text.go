package mention

import (
	"strings"

	"testgate/api"
	"testgate/source"
)

// Text returns the canonical text of the declaration with the index i of a file.
func Text(f api.Source, i int) (string, api.Errno) {
	if e := source.Check(f); e != api.OK {
		return "", e
	}
	if i < 0 || i >= len(f.Decls) {
		return "", api.ErrRange
	}
	return canonical(f, f.Decls[i]), api.OK
}

// canonical returns the text of a declaration alone in its file, which Check accepts. Format writes the lines with the body 0, since only a body can exceed the limits of Format; then the body itself takes the place of 0.
func canonical(f api.Source, d api.Decl) string {
	body, _ := source.Body(d.Body, d.Params)
	d.Body = []api.Expr{{Kind: api.ExprNumber}}
	lines, _ := source.Format(api.Source{Package: f.Package, Imports: f.Imports, Decls: []api.Decl{d}})
	return strings.TrimSuffix(lines, "0;\n") + body + ";\n"
}

// Read returns the file with a single declaration whose canonical text is s.
func Read(s string) (f api.Source, e api.Errno) {
	f, _, e = source.Parse(s)
	if e != api.OK {
		return api.Source{}, e
	}
	// A file without declarations has no text of index 0, and that of several is shorter than the file: s has only one if it is its text.
	if text, _ := Text(f, 0); text != s {
		return api.Source{}, api.ErrText
	}
	return f, api.OK
}
