package tests

import (
	"bytes"
	"go/ast"
	"go/format"
	"go/parser"
	"go/token"
	"os"
	"path/filepath"
	"strconv"
	"strings"
	"testing"
)

// What the language page lets the program import, and how long it lets a function be.
const allowedImports = " bytes cmp container/heap errors iter maps math math/big math/bits slices sort strconv strings sync sync/atomic unicode unicode/utf8 "
const longestFunction = 60

func programFiles(t *testing.T) []string {
	t.Helper()
	files, err := filepath.Glob(filepath.Join("..", "impl", "*"))
	if err != nil || len(files) == 0 {
		t.Fatal("the program is not where it should be")
	}
	return files
}

func TestProgramKeepsToTheLanguage(t *testing.T) {
	for _, name := range programFiles(t) {
		if !strings.HasSuffix(name, ".go") {
			t.Error(name, "is no Go file")
			continue
		}
		text, err := os.ReadFile(name)
		if err != nil {
			t.Fatal(err)
		}
		laid, err := format.Source(text)
		if err != nil || !bytes.Equal(laid, text) {
			t.Error(name, "is not in gofmt's layout")
		}
		set := token.NewFileSet()
		file, err := parser.ParseFile(set, name, text, parser.ParseComments)
		if err != nil {
			t.Fatal(err)
		}
		checkFile(t, name, set, file)
	}
}

func checkFile(t *testing.T, name string, set *token.FileSet, file *ast.File) {
	t.Helper()
	for _, i := range file.Imports {
		path, _ := strconv.Unquote(i.Path.Value)
		if !strings.Contains(allowedImports, " "+path+" ") {
			t.Error(name, "imports", path)
		}
	}
	for _, group := range file.Comments {
		for _, c := range group.List {
			if strings.HasPrefix(c.Text, "//go:") || strings.HasPrefix(c.Text, "// +build") {
				t.Error(name, "has the line", c.Text)
			}
		}
	}
	for _, d := range file.Decls {
		if f, ok := d.(*ast.FuncDecl); ok {
			if lines := set.Position(f.End()).Line - set.Position(f.Pos()).Line + 1; lines > longestFunction {
				t.Error(name, "has a function of", lines, "lines:", f.Name.Name)
			}
		}
	}
}
