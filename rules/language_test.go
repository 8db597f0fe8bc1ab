// Package rules has tests alone: what holds for all packages of the program.
package rules

import (
	"go/ast"
	"go/format"
	"go/parser"
	"go/token"
	"os"
	"path/filepath"
	"slices"
	"strconv"
	"strings"
	"testing"
)

// below are the layers that each layer calls.
func below() map[string][]string {
	calls := map[string]string{
		"api":    "",
		"shift":  "api",
		"table":  "shift",
		"lanes":  "api",
		"field":  "api shift table lanes",
		"poly":   "field",
		"quot":   "field poly",
		"value":  "field poly",
		"matrix": "api field",
		"gauss":  "api field matrix",
		"code":   "api field value",
		"encode": "api field quot code",
		"synd":   "api field poly value code",
		"check":  "api field code encode synd",
		"massey": "field poly",
		"euclid": "field poly quot",
		"chien":  "api field poly value code",
		"welch":  "api field poly quot value matrix gauss code",
		"three":  "api field poly code synd check massey euclid chien welch",
		"pick":   "api code",
		"codec":  "api field code encode synd check three pick",
		"weave":  "api code",
		"stream": "api code pick codec weave",
		"noise":  "api code weave",
		"play":   "api field code synd pick codec stream noise",
	}
	layers := map[string][]string{}
	for layer, names := range calls {
		layers[layer] = strings.Fields(names)
	}
	return layers
}

// library are the packages of the library that the program may import.
func library() []string {
	return strings.Fields("bytes cmp container/heap errors iter maps math math/bits slices sort strconv strings sync sync/atomic unicode unicode/utf8")
}

// barred are names of these packages that it may not use all the same.
func barred(pkg, name string) bool {
	switch pkg {
	case "iter":
		return name == "Pull" || name == "Pull2"
	case "sync":
		return !slices.Contains(strings.Fields("Mutex RWMutex WaitGroup Once"), name)
	}
	return false
}

type source struct {
	layer string
	path  string
	text  []byte
	fset  *token.FileSet
	file  *ast.File
}

// sources are the program's Go files, without its tests.
func sources(t *testing.T) []source {
	t.Helper()
	paths, err := filepath.Glob("../*/*.go")
	if err != nil {
		t.Fatal(err)
	}
	var l []source
	for _, path := range paths {
		layer := filepath.Base(filepath.Dir(path))
		if layer == "sharedtests" || strings.HasSuffix(path, "_test.go") {
			continue
		}
		text, err := os.ReadFile(path)
		if err != nil {
			t.Fatal(err)
		}
		fset := token.NewFileSet()
		file, err := parser.ParseFile(fset, path, text, parser.ParseComments)
		if err != nil {
			t.Fatal(err)
		}
		l = append(l, source{layer, path, text, fset, file})
	}
	return l
}

func TestLayersAreThere(t *testing.T) {
	there := map[string]bool{}
	for _, s := range sources(t) {
		there[s.layer] = true
	}
	for layer := range below() {
		if !there[layer] {
			t.Errorf("no package %s", layer)
		}
	}
}

func TestImports(t *testing.T) {
	layers := below()
	for _, s := range sources(t) {
		calls, isLayer := layers[s.layer]
		for _, spec := range s.file.Imports {
			path, err := strconv.Unquote(spec.Path.Value)
			if err != nil {
				t.Fatal(err)
			}
			own, isOwn := strings.CutPrefix(path, "erratum/")
			_, ofLayer := layers[own]
			switch {
			case !isOwn && !slices.Contains(library(), path):
				t.Errorf("%s imports %s, which the language leaves out", s.path, path)
			case isOwn && isLayer && ofLayer && !slices.Contains(calls, own):
				t.Errorf("%s imports %s, on which its layer does not stand", s.path, path)
			}
		}
	}
}

func TestNames(t *testing.T) {
	for _, s := range sources(t) {
		ast.Inspect(s.file, func(n ast.Node) bool {
			switch x := n.(type) {
			case *ast.SelectorExpr:
				if pkg, ok := x.X.(*ast.Ident); ok && barred(pkg.Name, x.Sel.Name) {
					t.Errorf("%s uses %s.%s", s.path, pkg.Name, x.Sel.Name)
				}
			case *ast.CallExpr:
				if f, ok := x.Fun.(*ast.Ident); ok && (f.Name == "print" || f.Name == "println") {
					t.Errorf("%s prints", s.path)
				}
			}
			return true
		})
	}
}

func TestLayout(t *testing.T) {
	for _, s := range sources(t) {
		laid, err := format.Source(s.text)
		if err != nil || string(laid) != string(s.text) {
			t.Errorf("%s is not laid out as gofmt does", s.path)
		}
		for _, g := range s.file.Comments {
			for _, c := range g.List {
				if strings.HasPrefix(c.Text, "//go:") || strings.HasPrefix(c.Text, "// +build") {
					t.Errorf("%s has the line %s", s.path, c.Text)
				}
			}
		}
	}
}

func TestFunctionsAreShort(t *testing.T) {
	for _, s := range sources(t) {
		for _, d := range s.file.Decls {
			f, ok := d.(*ast.FuncDecl)
			if !ok {
				continue
			}
			lines := s.fset.Position(f.End()).Line - s.fset.Position(f.Pos()).Line + 1
			if lines > 60 {
				t.Errorf("%s: %s has %d lines", s.path, f.Name.Name, lines)
			}
		}
	}
}
