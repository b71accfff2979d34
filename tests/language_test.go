package tests

import (
	"bytes"
	"go/ast"
	"go/format"
	"go/parser"
	"go/token"
	"os"
	"path/filepath"
	"strconv"
	"strings"
	"testing"
)

// What the language page lets the program import, and how long it lets a function be.
const allowedImports = " bytes cmp container/heap errors iter maps math math/big math/bits slices sort strconv strings sync sync/atomic unicode unicode/utf8 "
const longestFunction = 60

func programFiles(t *testing.T) []string {
	t.Helper()
	files, err := filepath.Glob(filepath.Join("..", "impl", "*"))
	if err != nil || len(files) == 0 {
		t.Fatal("the program is not where it should be")
	}
	return files
}

func TestProgramKeepsToTheLanguage(t *testing.T) {
	for _, name := range programFiles(t) {
		if !strings.HasSuffix(name, ".go") {
			t.Error(name, "is no Go file")
			continue
		}
		text, err := os.ReadFile(name)
		if err != nil {
			t.Fatal(err)
		}
		laid, err := format.Source(text)
		if err != nil || !bytes.Equal(laid, text) {
			t.Error(name, "is not in gofmt's layout")
		}
		set := token.NewFileSet()
		file, err := parser.ParseFile(set, name, text, parser.ParseComments)
		if err != nil {
			t.Fatal(err)
		}
		checkFile(t, name, set, file)
	}
}

func checkFile(t *testing.T, name string, set *token.FileSet, file *ast.File) {
	t.Helper()
	for _, i := range file.Imports {
		path, _ := strconv.Unquote(i.Path.Value)
		if !strings.Contains(allowedImports, " "+path+" ") {
			t.Error(name, "imports", path)
		}
	}
	for _, group := range file.Comments {
		for _, c := range group.List {
			if strings.HasPrefix(c.Text, "//go:") || strings.HasPrefix(c.Text, "// +build") {
				t.Error(name, "has the line", c.Text)
			}
		}
	}
	for _, d := range file.Decls {
		switch d := d.(type) {
		case *ast.FuncDecl:
			if lines := set.Position(d.End()).Line - set.Position(d.Pos()).Line + 1; lines > longestFunction {
				t.Error(name, "has a function of", lines, "lines:", d.Name.Name)
			}
		case *ast.GenDecl:
			for _, fault := range variableFaults(d) {
				t.Error(name, "has at package level", fault)
			}
		}
	}
}

// variableFaults tells what rules 3a and 3b of the language page do not let stand in this declaration.
func variableFaults(d *ast.GenDecl) []string {
	var faults []string
	for _, s := range d.Specs {
		v, ok := s.(*ast.ValueSpec)
		if !ok || d.Tok != token.VAR {
			continue
		}
		if len(v.Values) != len(v.Names) {
			faults = append(faults, v.Names[0].Name+", a variable without a value of its own")
		}
		for i, x := range v.Values {
			if !isErrorsNew(x) && !isPlainLiteral(x) {
				faults = append(faults, v.Names[i].Name+", a variable that is no short table and no plain error")
			}
		}
	}
	return faults
}

// Package-level variables are read only: nobody assigns to one, takes its address, or a piece of it (which is one).
func TestPackageVariablesAreOnlyRead(t *testing.T) {
	set := token.NewFileSet()
	var files []*ast.File
	names := map[string]bool{}
	for _, name := range programFiles(t) {
		file, err := parser.ParseFile(set, name, nil, 0)
		if err != nil {
			t.Fatal(err)
		}
		files = append(files, file)
		packageVariables(file, names)
	}
	for _, file := range files {
		for _, at := range touched(file, names) {
			t.Error(set.Position(at), "touches a variable of the package")
		}
	}
}

func packageVariables(file *ast.File, names map[string]bool) {
	for _, d := range file.Decls {
		if d, ok := d.(*ast.GenDecl); ok && d.Tok == token.VAR {
			for _, s := range d.Specs {
				for _, n := range s.(*ast.ValueSpec).Names {
					names[n.Name] = true
				}
			}
		}
	}
}

// touched are the places where one of these names is assigned to, or its address is taken.
func touched(file *ast.File, names map[string]bool) []token.Pos {
	var found []token.Pos
	note := func(x ast.Expr) {
		for {
			switch y := x.(type) {
			case *ast.IndexExpr:
				x = y.X
			case *ast.SelectorExpr:
				x = y.X
			case *ast.ParenExpr:
				x = y.X
			case *ast.Ident:
				if names[y.Name] {
					found = append(found, y.Pos())
				}
				return
			default:
				return
			}
		}
	}
	ast.Inspect(file, func(n ast.Node) bool {
		switch n := n.(type) {
		case *ast.AssignStmt:
			for _, x := range n.Lhs {
				note(x)
			}
		case *ast.IncDecStmt:
			note(n.X)
		case *ast.UnaryExpr:
			if n.Op == token.AND {
				note(n.X)
			}
		case *ast.SliceExpr:
			note(n.X)
		}
		return true
	})
	return found
}

func TestTouched(t *testing.T) {
	for text, want := range map[string]int{
		"b := v; _ = b":        0,
		"for range v { }":      0,
		"_ = v[0] == w":        0,
		"_ = v[:]":             1,
		"v = w":                1,
		"v[0], b = 1, 2":       1,
		"_ = &v[1]":            1,
		"v[0]++":               1,
		"_ = v[0].w[:2]":       1,
		"w.v = 1; _ = w[1:].v": 0,
	} {
		file, err := parser.ParseFile(token.NewFileSet(), "", "package p\nfunc f() { "+text+" }", 0)
		if err != nil {
			t.Fatal(err)
		}
		if got := len(touched(file, map[string]bool{"v": true})); got != want {
			t.Error(text, got)
		}
	}
}

func isErrorsNew(x ast.Expr) bool {
	call, ok := x.(*ast.CallExpr)
	if !ok || len(call.Args) != 1 {
		return false
	}
	fun, ok := call.Fun.(*ast.SelectorExpr)
	if !ok {
		return false
	}
	pack, ok := fun.X.(*ast.Ident)
	text, plain := call.Args[0].(*ast.BasicLit)
	return ok && plain && pack.Name == "errors" && fun.Sel.Name == "New" && text.Kind == token.STRING
}

// isPlainLiteral asks for something with its elements written out: no call, function, map, float, address or lone text.
func isPlainLiteral(x ast.Expr) bool {
	if text, ok := x.(*ast.BasicLit); ok && text.Kind == token.STRING {
		return false
	}
	plain, some := true, false
	ast.Inspect(x, func(n ast.Node) bool {
		switch n := n.(type) {
		case *ast.CallExpr, *ast.FuncLit, *ast.FuncType, *ast.MapType:
			plain = false
		case *ast.UnaryExpr:
			plain = plain && n.Op != token.AND
		case *ast.BasicLit:
			plain = plain && n.Kind != token.FLOAT && n.Kind != token.IMAG
			some = true
		}
		return true
	})
	return plain && some
}

// The look itself: what it lets stand, and what it does not.
func TestVariableFaults(t *testing.T) {
	for text, good := range map[string]bool{
		"const a = 5":                               true,
		"type a struct{ b int }":                    true,
		"var a = [2]int64{1, 2}":                    true,
		"var a = []struct{ b string }{{\"c\"}}":     true,
		"var a = errors.New(\"a\")":                 true,
		"var a sync.Once":                           false,
		"var a [256]uint32":                         false,
		"var a = sync.Once{}":                       false,
		"var a = \"text\"":                          false,
		"var a = b()":                               false,
		"var a = errors.Join(b)":                    false,
		"var a = map[int]int{1: 2}":                 false,
		"var a = func() {}":                         false,
		"var a = &[1]int{1}":                        false,
		"var a = 1.5":                               false,
		"var (\n\ta = [1]int{1}\n\tb sync.Mutex\n)": false,
	} {
		file, err := parser.ParseFile(token.NewFileSet(), "", "package p\n"+text, 0)
		if err != nil {
			t.Fatal(err)
		}
		if faults := variableFaults(file.Decls[0].(*ast.GenDecl)); (len(faults) == 0) != good {
			t.Error(text, faults)
		}
	}
}
