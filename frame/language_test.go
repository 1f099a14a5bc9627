package frame

import (
	"bytes"
	"go/ast"
	"go/format"
	"go/parser"
	"go/token"
	"io/fs"
	"os"
	"path/filepath"
	"slices"
	"strconv"
	"strings"
	"testing"
)

const mostLines = 60

// The layers in the order of the document's map: each may call those ahead of it.
var layers = []string{"num", "mix", "name", "term", "match", "rule", "rewrite", "net", "disk", "journal", "pager", "space", "leaf", "tree", "slot", "nodes", "refs", "names", "book", "memo", "jobs", "command", "vault", "audit", "story"}

var library = []string{"bytes", "cmp", "container/heap", "errors", "iter", "maps", "math", "math/bits", "slices", "sort", "strconv", "strings", "sync", "sync/atomic", "unicode", "unicode/utf8"}

// source is a Go file of the program itself: no test, and none of the tests that .ci/run lays beside it.
type source struct {
	path, pack string
	file       *ast.File
	set        *token.FileSet
}

func sources(t *testing.T) []source {
	t.Helper()
	var l []source
	for _, path := range files(t) {
		if !strings.HasSuffix(path, ".go") || strings.HasSuffix(path, "_test.go") {
			continue
		}
		set := token.NewFileSet()
		file, err := parser.ParseFile(set, path, nil, parser.ParseComments)
		if err != nil {
			t.Fatal(err)
		}
		l = append(l, source{path, filepath.Base(filepath.Dir(path)), file, set})
	}
	return l
}

// files are those of the packages' folders; hidden folders and the shared tests are passed over.
func files(t *testing.T) []string {
	t.Helper()
	var l []string
	err := filepath.WalkDir("..", func(path string, d fs.DirEntry, err error) error {
		if err != nil {
			return err
		}
		if d.IsDir() && (d.Name() == "sharedtests" || strings.HasPrefix(d.Name(), ".") && path != "..") {
			return filepath.SkipDir
		}
		if !d.IsDir() && filepath.Dir(path) != ".." {
			l = append(l, path)
		}
		return nil
	})
	if err != nil {
		t.Fatal(err)
	}
	return l
}

func TestEveryLayerIsThere(t *testing.T) {
	var there []string
	for _, s := range sources(t) {
		there = append(there, s.pack)
	}
	for _, pack := range append([]string{"api"}, layers...) {
		if !slices.Contains(there, pack) {
			t.Errorf("no package %s", pack)
		}
	}
}

func TestImports(t *testing.T) {
	for _, s := range sources(t) {
		for _, i := range s.file.Imports {
			path, err := strconv.Unquote(i.Path.Value)
			if err != nil {
				t.Fatal(err)
			}
			own, ok := strings.CutPrefix(path, "aumbry/")
			if !ok && !slices.Contains(library, path) {
				t.Errorf("%s imports %s", s.path, path)
			}
			if me, it := slices.Index(layers, s.pack), slices.Index(layers, own); ok && me >= 0 && it >= me {
				t.Errorf("%s imports %s, which is not below it", s.path, own)
			}
		}
	}
}

func TestOnlyGoFiles(t *testing.T) {
	for _, path := range files(t) {
		if !strings.HasSuffix(path, ".go") {
			t.Errorf("%s stands beside the Go files", path)
		}
	}
}

func TestNoDirectives(t *testing.T) {
	for _, s := range sources(t) {
		for _, group := range s.file.Comments {
			for _, c := range group.List {
				if strings.HasPrefix(c.Text, "//go:") || strings.HasPrefix(c.Text, "// +build") || strings.HasPrefix(c.Text, "//+build") {
					t.Errorf("%s: %s", s.path, c.Text)
				}
			}
		}
	}
}

func TestShortFunctions(t *testing.T) {
	for _, s := range sources(t) {
		for _, d := range s.file.Decls {
			f, ok := d.(*ast.FuncDecl)
			if !ok {
				continue
			}
			if n := s.set.Position(f.End()).Line - s.set.Position(f.Pos()).Line + 1; n > mostLines {
				t.Errorf("%s: %s has %d lines", s.path, f.Name.Name, n)
			}
		}
	}
}

func TestLayout(t *testing.T) {
	for _, path := range files(t) {
		if !strings.HasSuffix(path, ".go") {
			continue
		}
		text, err := os.ReadFile(path)
		if err != nil {
			t.Fatal(err)
		}
		if laid, err := format.Source(text); err != nil || !bytes.Equal(laid, text) {
			t.Errorf("%s isn't in gofmt's layout", path)
		}
	}
}
