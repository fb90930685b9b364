// Package rules tests that the program's files keep to the rules of its language, and its layers to the document's map.
package rules

import (
	"go/ast"
	"go/format"
	"go/parser"
	"go/token"
	"go/types"
	"io/fs"
	"os"
	"path/filepath"
	"slices"
	"strconv"
	"strings"
	"testing"
)

const module = "cadastre/"

// library is what may be imported of Go's own packages.
var library = strings.Fields("bytes cmp container/heap errors iter maps math math/bits slices sort strconv strings sync sync/atomic unicode unicode/utf8")

// calls is the document's map: which layers each one stands on.
var calls = map[string]string{
	"api":     "",
	"field":   "",
	"sum32":   "",
	"page":    "field sum32",
	"disk":    "page",
	"free":    "",
	"entry":   "field sum32",
	"journal": "page disk entry",
	"key":     "",
	"atlas":   "key",
	"bucket":  "field key atlas",
	"part":    "key bucket",
	"scale":   "field key",
	"slab":    "",
	"region":  "key part slab",
	"grid":    "key atlas bucket part scale slab region",
	"excell":  "key part",
	"exdir":   "key atlas bucket part excell",
	"linear":  "key excell",
	"chain":   "key atlas bucket part linear",
	"engine":  "key grid exdir chain",
	"merge":   "key",
	"image":   "field bucket exdir chain engine",
	"pager":   "page disk entry journal",
	"check":   "disk engine image pager",
	"request": "key atlas",
	"store":   "key disk engine image merge pager request",
}

// source is a file of the program, in the folder of a package.
type source struct {
	path, folder, text string
	places             *token.FileSet
	tree               *ast.File
}

// program is all the program's files, but not those of its tests.
func program(t *testing.T) []source {
	t.Helper()
	var out []source
	err := filepath.WalkDir("..", func(path string, d fs.DirEntry, err error) error {
		if err != nil {
			return err
		}
		name := d.Name()
		if d.IsDir() && path != ".." && (strings.HasPrefix(name, ".") || name == "sharedtests" || name == "rules") {
			return fs.SkipDir
		}
		if d.IsDir() || filepath.Dir(path) == ".." {
			return nil
		}
		if !strings.HasSuffix(name, ".go") {
			t.Errorf("%s: no Go file", path)
			return nil
		}
		if strings.HasSuffix(name, "_test.go") {
			return nil
		}
		text, err := os.ReadFile(path)
		if err != nil {
			return err
		}
		s := source{path: path, folder: filepath.Base(filepath.Dir(path)), text: string(text), places: token.NewFileSet()}
		s.tree, err = parser.ParseFile(s.places, path, text, parser.ParseComments)
		out = append(out, s)
		return err
	})
	if err != nil {
		t.Fatal(err)
	}
	return out
}

func TestEachLayerHasItsPackage(t *testing.T) {
	var have []string
	for _, s := range program(t) {
		have = append(have, s.folder)
		if s.tree.Name.Name != s.folder {
			t.Errorf("%s: package %s", s.path, s.tree.Name.Name)
		}
	}
	for layer := range calls {
		if !slices.Contains(have, layer) {
			t.Errorf("no package %s", layer)
		}
	}
}

func TestImports(t *testing.T) {
	for _, s := range program(t) {
		below, layer := calls[s.folder]
		for _, i := range s.tree.Imports {
			path, _ := strconv.Unquote(i.Path.Value)
			own, inside := strings.CutPrefix(path, module)
			_, ownLayer := calls[own]
			switch {
			case !inside && !slices.Contains(library, path):
				t.Errorf("%s: imports %s", s.path, path)
			case inside && layer && ownLayer && own != "api" && !slices.Contains(strings.Fields(below), own):
				t.Errorf("%s: %s does not stand on %s", s.path, s.folder, own)
			}
		}
	}
}

func TestLayout(t *testing.T) {
	for _, s := range program(t) {
		laid, err := format.Source([]byte(s.text))
		if err != nil || string(laid) != s.text {
			t.Errorf("%s: not as gofmt lays it (%v)", s.path, err)
		}
		for _, c := range s.tree.Comments {
			for _, line := range c.List {
				if strings.HasPrefix(line.Text, "//go:") || strings.HasPrefix(line.Text, "// +build") {
					t.Errorf("%s: %s", s.path, line.Text)
				}
			}
		}
	}
}

func TestFunctionsAreSmall(t *testing.T) {
	for _, s := range program(t) {
		for _, d := range s.tree.Decls {
			f, ok := d.(*ast.FuncDecl)
			if !ok {
				continue
			}
			if n := s.places.Position(f.End()).Line - s.places.Position(f.Pos()).Line + 1; n > 60 {
				t.Errorf("%s: %s has %d lines", s.path, f.Name.Name, n)
			}
		}
	}
}

// At package level stand no variables but those whose value is written out there, and errors made by errors.New.
func TestPackageVariables(t *testing.T) {
	for _, s := range program(t) {
		for _, d := range s.tree.Decls {
			g, ok := d.(*ast.GenDecl)
			if !ok || g.Tok != token.VAR {
				continue
			}
			for _, v := range g.Specs {
				checkVariable(t, s, v.(*ast.ValueSpec))
			}
		}
	}
}

func checkVariable(t *testing.T, s source, v *ast.ValueSpec) {
	t.Helper()
	if len(v.Values) != len(v.Names) {
		t.Errorf("%s: %s has no value of its own", s.path, v.Names[0].Name)
	}
	for _, value := range v.Values {
		ast.Inspect(value, func(n ast.Node) bool {
			switch x := n.(type) {
			case *ast.CallExpr:
				if types.ExprString(x.Fun) != "errors.New" {
					t.Errorf("%s: the value of %s is made by a call", s.path, v.Names[0].Name)
				}
			case *ast.FuncLit, *ast.MapType:
				t.Errorf("%s: a function or a map in %s", s.path, v.Names[0].Name)
			}
			return true
		})
	}
}
