package tests

import (
	"bytes"
	"go/ast"
	"go/format"
	"go/parser"
	"go/token"
	"os"
	"path/filepath"
	"strings"
	"testing"
)

const program = "../impl"
const allowedImports = " bytes cmp container/heap errors iter maps math math/bits slices sort strconv strings sync sync/atomic unicode unicode/utf8 "
const mostLines = 60

func TestProgramHasGoFilesAlone(t *testing.T) {
	files, err := os.ReadDir(program)
	if err != nil {
		t.Fatal(err)
	}
	for _, f := range files {
		if f.IsDir() || !strings.HasSuffix(f.Name(), ".go") {
			t.Errorf("%s is no Go file", f.Name())
		}
	}
}

func TestProgramKeepsToTheLanguage(t *testing.T) {
	names, err := filepath.Glob(program + "/*.go")
	if err != nil || len(names) == 0 {
		t.Fatal("no program", err)
	}
	for _, name := range names {
		text, err := os.ReadFile(name)
		if err != nil {
			t.Fatal(err)
		}
		checkLayout(t, name, text)
		set := token.NewFileSet()
		file, err := parser.ParseFile(set, name, text, parser.ParseComments)
		if err != nil {
			t.Fatal(err)
		}
		checkImports(t, name, file)
		checkFunctions(t, set, file)
	}
}

func checkLayout(t *testing.T, name string, text []byte) {
	laid, err := format.Source(text)
	if err != nil {
		t.Fatal(err)
	}
	if !bytes.Equal(laid, text) {
		t.Errorf("%s is not laid out as gofmt does", name)
	}
	if bytes.Contains(text, []byte("//go:")) {
		t.Errorf("%s has a //go: line", name)
	}
}

func checkImports(t *testing.T, name string, file *ast.File) {
	for _, i := range file.Imports {
		path := strings.Trim(i.Path.Value, "\"")
		if !strings.Contains(allowedImports, " "+path+" ") {
			t.Errorf("%s imports %s", name, path)
		}
	}
}

func checkFunctions(t *testing.T, set *token.FileSet, file *ast.File) {
	for _, d := range file.Decls {
		f, ok := d.(*ast.FuncDecl)
		if !ok {
			continue
		}
		lines := set.Position(f.End()).Line - set.Position(f.Pos()).Line + 1
		if lines > mostLines {
			t.Errorf("%s has %d lines", f.Name.Name, lines)
		}
	}
}
