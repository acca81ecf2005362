// Package rules holds the tests of what holds for all packages at once.
package rules

import (
	"go/ast"
	"go/parser"
	"go/token"
	"io/fs"
	"os"
	"path/filepath"
	"slices"
	"strconv"
	"strings"
	"testing"
)

// allowed is what of the library the program may use: nothing in it asks a
// clock, chance, a file or a network (P2).
var allowed = []string{
	"bytes", "cmp", "container/heap", "errors", "iter", "maps", "math", "math/bits", "slices", "sort",
	"strconv", "strings", "sync", "sync/atomic", "unicode", "unicode/utf8",
}

// layers is the document's map, with what each layer may call, beside api.
func layers() map[string]string {
	return map[string]string{
		"api": "", "digest": "", "mac": "digest", "seal": "mac", "wire": "", "claims": "wire",
		"token": "claims mac", "keys": "claims mac token", "revoke": "digest wire", "delta": "revoke wire",
		"cookie": "mac", "quota": "", "window": "wire", "drops": "", "packet": "claims mac window wire",
		"cache":   "claims mac window",
		"channel": "cache claims drops keys mac packet revoke seal token window",
		"fresh":   "delta revoke wire", "join": "channel claims packet wire", "member": "claims wire",
		"view": "claims revoke", "probe": "", "suspect": "", "queue": "claims member", "hints": "claims quota",
		"sync":  "claims delta join member revoke view window wire",
		"scope": "mac seal wire", "events": "",
		"node":   "channel claims delta drops events fresh hints join member packet probe queue revoke scope suspect sync token view",
		"seed":   "channel claims cookie delta drops fresh join keys mac node packet quota revoke token window",
		"net":    "node probe",
		"script": "digest wire",
		"world":  "claims mac net node probe script seed token",
	}
}

// program is the program's own files, parsed, by their paths.
func program(t *testing.T, set *token.FileSet) map[string]*ast.File {
	out := map[string]*ast.File{}
	err := filepath.WalkDir("..", func(path string, d fs.DirEntry, err error) error {
		if err != nil {
			return err
		}
		if d.IsDir() && (d.Name() == "sharedtests" || d.Name() == ".git") {
			return fs.SkipDir
		}
		if d.IsDir() || !strings.HasSuffix(path, ".go") || strings.HasSuffix(path, "_test.go") {
			return nil
		}
		out[path], err = parser.ParseFile(set, path, nil, parser.ParseComments)
		return err
	})
	if err != nil {
		t.Fatal(err)
	}
	return out
}

func TestImports(t *testing.T) {
	known := layers()
	for path, file := range program(t, token.NewFileSet()) {
		pack := filepath.Base(filepath.Dir(path))
		calls, isLayer := known[pack]
		for _, i := range file.Imports {
			name, err := strconv.Unquote(i.Path.Value)
			if err != nil {
				t.Fatal(err)
			}
			own, isOwn := strings.CutPrefix(name, "vigil/")
			_, toLayer := known[own]
			switch {
			case !isOwn && !slices.Contains(allowed, name):
				t.Errorf("%s: %s isn't of the language", path, name)
			case isOwn && isLayer && toLayer && own != "api" && !slices.Contains(strings.Fields(calls), own):
				t.Errorf("%s: %s isn't below %s in the map", path, own, pack)
			}
		}
	}
}

func TestEveryLayerIsThere(t *testing.T) {
	for pack := range layers() {
		if _, err := os.Stat(filepath.Join("..", pack, pack+".go")); err != nil {
			t.Error(err)
		}
	}
}

func TestNoOrdersToTheCompiler(t *testing.T) {
	for path, file := range program(t, token.NewFileSet()) {
		for _, group := range file.Comments {
			for _, c := range group.List {
				if strings.HasPrefix(c.Text, "//go:") || strings.HasPrefix(c.Text, "// +build") {
					t.Errorf("%s: %s", path, c.Text)
				}
			}
		}
	}
}
