// Package checks contains tests that concern all packages: the signatures of the layers, the rules of shared/LANGUAGE.md as far as the text of the program shows them, and theorems about several layers.
package checks

import (
	"bytes"
	"go/ast"
	"go/format"
	"go/parser"
	"go/token"
	"io/fs"
	"os"
	"path/filepath"
	"slices"
	"strconv"
	"strings"
	"testing"
)

// permitted has the packages of the standard library that the program may import.
var permitted = []string{"bytes", "cmp", "container/heap", "errors", "iter", "maps", "math", "math/bits", "slices", "sort", "strconv", "strings", "sync", "sync/atomic", "unicode", "unicode/utf8"}

// maxLines is the greatest number of lines of a function.
const maxLines = 60

// source is a Go file of the program.
type source struct {
	path  string
	bytes []byte
	fset  *token.FileSet
	file  *ast.File
}

// read returns a parsed file.
func read(path string, text []byte) (source, error) {
	s := source{path: path, bytes: text, fset: token.NewFileSet()}
	var err error
	s.file, err = parser.ParseFile(s.fset, path, text, parser.ParseComments)
	return s, err
}

// faults returns what is wrong with a file.
func (s source) faults() []string {
	list := slices.Concat(s.importFaults(), s.commentFaults(), s.layoutFaults())
	for _, d := range s.file.Decls {
		switch d := d.(type) {
		case *ast.FuncDecl:
			if lines := s.fset.Position(d.End()).Line - s.fset.Position(d.Pos()).Line + 1; lines > maxLines {
				list = append(list, "function "+d.Name.Name+" has "+strconv.Itoa(lines)+" lines")
			}
		case *ast.GenDecl:
			if d.Tok == token.VAR {
				list = append(list, variableFaults(d)...)
			}
		}
	}
	return list
}

// importFaults returns the imports that are not permitted (rules 1 and 2).
func (s source) importFaults() []string {
	var list []string
	for _, i := range s.file.Imports {
		path, _ := strconv.Unquote(i.Path.Value)
		if !slices.Contains(permitted, path) && !strings.HasPrefix(path, "domicile/") {
			list = append(list, "import "+path)
		}
	}
	ast.Inspect(s.file, func(n ast.Node) bool {
		if x, ok := n.(*ast.SelectorExpr); ok {
			if p, ok := x.X.(*ast.Ident); ok && p.Name == "iter" && strings.HasPrefix(x.Sel.Name, "Pull") {
				list = append(list, "iter."+x.Sel.Name)
			}
		}
		return true
	})
	return list
}

// commentFaults returns the directives and build tags (rule 2).
func (s source) commentFaults() []string {
	var list []string
	for _, g := range s.file.Comments {
		for _, c := range g.List {
			if strings.HasPrefix(c.Text, "//go:") || strings.HasPrefix(c.Text, "// +build") {
				list = append(list, c.Text)
			}
		}
	}
	return list
}

// layoutFaults reports a layout that is not that of gofmt (rule 9).
func (s source) layoutFaults() []string {
	if text, err := format.Source(s.bytes); err != nil || !bytes.Equal(text, s.bytes) {
		return []string{"not formatted by gofmt"}
	}
	return nil
}

// variableFaults returns the package-level variables that are no short tables and no errors (rules 3a and 3b).
func variableFaults(d *ast.GenDecl) []string {
	var list []string
	for _, spec := range d.Specs {
		v := spec.(*ast.ValueSpec)
		if len(v.Values) != len(v.Names) {
			list = append(list, "variable "+v.Names[0].Name+" without a value")
		}
		for i, value := range v.Values {
			if !isTable(value) && !isError(value) {
				list = append(list, "variable "+v.Names[i].Name+" is no table")
			}
		}
	}
	return list
}

// isTable reports whether a value is a literal of an array, a slice or a struct, and has no map, function or call in it.
func isTable(value ast.Expr) bool {
	if _, ok := value.(*ast.CompositeLit); !ok {
		return false
	}
	plain := true
	ast.Inspect(value, func(n ast.Node) bool {
		switch n.(type) {
		case *ast.MapType, *ast.FuncLit, *ast.CallExpr:
			plain = false
		}
		return plain
	})
	return plain
}

// isError reports whether a value is created by errors.New.
func isError(value ast.Expr) bool {
	call, ok := value.(*ast.CallExpr)
	if !ok {
		return false
	}
	f, ok := call.Fun.(*ast.SelectorExpr)
	if !ok {
		return false
	}
	p, ok := f.X.(*ast.Ident)
	return ok && p.Name == "errors" && f.Sel.Name == "New"
}

// forbiddenFolder reports whether a package folder may not have a name.
func forbiddenFolder(name string) bool {
	return name == "form" || name == "try" || strings.HasPrefix(name, "domicile")
}

// TestLanguage checks every file of the program; tests may use all of Go.
func TestLanguage(t *testing.T) {
	const root = ".."
	err := filepath.WalkDir(root, func(path string, d fs.DirEntry, err error) error {
		if err != nil || path == root {
			return err
		}
		if d.IsDir() {
			if strings.HasPrefix(d.Name(), ".") || d.Name() == "sharedtests" {
				return filepath.SkipDir
			}
			if forbiddenFolder(d.Name()) {
				t.Errorf("%s: the name of the folder is not permitted", path)
			}
			return nil
		}
		return checkFile(t, path, filepath.Dir(path) == root)
	})
	if err != nil {
		t.Fatal(err)
	}
}

// checkFile checks a file of the program; the folder at the top has README.md and go.mod, too.
func checkFile(t *testing.T, path string, top bool) error {
	if filepath.Ext(path) != ".go" {
		if !top {
			t.Errorf("%s is no Go file", path)
		}
		return nil
	}
	if strings.HasSuffix(path, "_test.go") {
		return nil
	}
	text, err := os.ReadFile(path)
	if err != nil {
		return err
	}
	s, err := read(path, text)
	if err != nil {
		return err
	}
	for _, fault := range s.faults() {
		t.Errorf("%s: %s", path, fault)
	}
	return nil
}

// TestFaults checks that the rules find what they are there for.
func TestFaults(t *testing.T) {
	for _, test := range []struct{ text, want string }{
		{"const a = 1\n\nvar b = [2]int{1, 2}\n\nvar c = []struct{ d string }{{\"e\"}}\n", ""},
		{"import \"errors\"\n\nvar errBad = errors.New(\"bad\")\n", ""},
		{"import \"domicile/api\"\n\nvar a = []int{api.TokName}\n", ""},
		{"import \"fmt\"\n", "import fmt"},
		{"import \"os\"\n", "import os"},
		{"import \"iter\"\n\nfunc f(s iter.Seq[int]) { iter.Pull(s) }\n", "iter.Pull"},
		{"//go:noinline\nfunc f() {}\n", "//go:noinline"},
		{"func  f() {}\n", "not formatted by gofmt"},
		{"var a int\n", "variable a without a value"},
		{"var a = map[int]int{}\n", "variable a is no table"},
		{"var a = []func(){func() {}}\n", "variable a is no table"},
		{"var a = f()\n", "variable a is no table"},
		{"func f() {\n" + strings.Repeat("\tf()\n", maxLines-2) + "}\n", ""},
		{"func f() {\n" + strings.Repeat("\tf()\n", maxLines-1) + "}\n", "function f has 61 lines"},
	} {
		s, err := read("p.go", []byte("package p\n\n"+test.text))
		if err != nil {
			t.Fatal(err)
		}
		if got := strings.Join(s.faults(), "; "); got != test.want {
			t.Errorf("%q: %q, want %q", test.text, got, test.want)
		}
	}
	for name, want := range map[string]bool{"form": true, "try": true, "domicile": true, "domicilex": true, "lexer": false, "format": false} {
		if forbiddenFolder(name) != want {
			t.Errorf("the folder %s: %v", name, !want)
		}
	}
}
