package checks

import (
	"bytes"
	"go/ast"
	"go/format"
	"go/parser"
	"go/token"
	"io/fs"
	"os"
	"path/filepath"
	"slices"
	"strconv"
	"strings"
	"testing"
)

const longest = 70 // lines of a function: some 60

// The library's packages that LANGUAGE.md allows.
var allowed = []string{"bytes", "cmp", "container/heap", "errors", "iter", "maps", "math", "math/bits", "slices", "sort", "strconv", "strings", "sync", "sync/atomic", "unicode", "unicode/utf8"}

// programFiles are the Go files of the program, without its tests and without those that are laid beside it.
func programFiles(t *testing.T) []string {
	t.Helper()
	var files []string
	err := filepath.WalkDir("..", func(path string, d fs.DirEntry, err error) error {
		if err != nil {
			return err
		}
		if d.IsDir() && (d.Name() == "sharedtests" || d.Name() == ".git") {
			return filepath.SkipDir
		}
		if !d.IsDir() && strings.HasSuffix(path, ".go") && !strings.HasSuffix(path, "_test.go") {
			files = append(files, path)
		}
		return nil
	})
	if err != nil || len(files) < 25 {
		t.Fatalf("%d files, %v", len(files), err)
	}
	return files
}

// R5 and LANGUAGE.md: what could print, ask a clock, draw a random number or open a file is not imported at all.
func TestLanguage(t *testing.T) {
	for _, path := range programFiles(t) {
		text, err := os.ReadFile(path)
		if err != nil {
			t.Fatal(err)
		}
		if laid, err := format.Source(text); err != nil || !bytes.Equal(laid, text) {
			t.Errorf("%s: not gofmt's layout (%v)", path, err)
		}
		fset := token.NewFileSet()
		file, err := parser.ParseFile(fset, path, text, parser.ParseComments)
		if err != nil {
			t.Fatal(err)
		}
		checkImports(t, path, file)
		checkComments(t, path, file)
		checkCode(t, path, fset, file)
	}
}

func checkImports(t *testing.T, path string, file *ast.File) {
	for _, i := range file.Imports {
		name, err := strconv.Unquote(i.Path.Value)
		if err != nil {
			t.Fatal(err)
		}
		if !strings.HasPrefix(name, "augur/") && !slices.Contains(allowed, name) {
			t.Errorf("%s imports %s", path, name)
		}
	}
}

func checkComments(t *testing.T, path string, file *ast.File) {
	for _, g := range file.Comments {
		for _, c := range g.List {
			if strings.HasPrefix(c.Text, "//go:") || strings.HasPrefix(c.Text, "// +build") {
				t.Errorf("%s: %s", path, c.Text)
			}
		}
	}
}

func checkCode(t *testing.T, path string, fset *token.FileSet, file *ast.File) {
	ast.Inspect(file, func(n ast.Node) bool {
		switch x := n.(type) {
		case *ast.FuncDecl:
			if lines := fset.Position(x.End()).Line - fset.Position(x.Pos()).Line + 1; lines > longest {
				t.Errorf("%s: %s has %d lines", path, x.Name.Name, lines)
			}
		case *ast.CallExpr:
			if f, ok := x.Fun.(*ast.Ident); ok && (f.Name == "print" || f.Name == "println") {
				t.Errorf("%s calls %s", path, f.Name)
			}
		case *ast.SelectorExpr:
			if p, ok := x.X.(*ast.Ident); ok && p.Name == "iter" && (x.Sel.Name == "Pull" || x.Sel.Name == "Pull2") {
				t.Errorf("%s uses iter.%s", path, x.Sel.Name)
			}
		}
		return true
	})
}
