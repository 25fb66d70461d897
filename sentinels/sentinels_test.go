package sentinels_test

import (
	"errors"
	"fmt"
	"go/ast"
	"go/parser"
	"go/token"
	"strings"
	"testing"

	"culvert/api"
	"culvert/sentinels"
)

// namesOfErrors reads api's source, so that a sentinel that All forgets is found.
func namesOfErrors(t *testing.T) int {
	file, err := parser.ParseFile(token.NewFileSet(), "../api/api.go", nil, 0)
	if err != nil {
		t.Fatal(err)
	}
	count := 0
	ast.Inspect(file, func(n ast.Node) bool {
		if v, ok := n.(*ast.ValueSpec); ok {
			for _, name := range v.Names {
				if strings.HasPrefix(name.Name, "Err") {
					count++
				}
			}
		}
		return true
	})
	return count
}

func TestAllHasEverySentinelOnce(t *testing.T) {
	all := sentinels.All()
	if got, want := len(all), namesOfErrors(t); got != want {
		t.Errorf("All has %d sentinels, api has %d", got, want)
	}
	seen := map[error]int{}
	for _, s := range all {
		seen[s]++
		if seen[s] > 1 {
			t.Errorf("All has %q twice", s)
		}
	}
}

func TestJust(t *testing.T) {
	foreign := errors.New("of no layer")
	for _, c := range []struct {
		err, want error
		just      bool
	}{
		{nil, nil, true},
		{api.ErrNil, nil, false},
		{nil, api.ErrNil, false},
		{api.ErrNil, api.ErrNil, true},
		{api.ErrNil, api.ErrRange, false},
		{foreign, api.ErrNil, false},
		{foreign, nil, false},
		{foreign, foreign, true},
		{nil, foreign, false},
		{fmt.Errorf("wrapped: %w", api.ErrShort), api.ErrShort, true},
		{errors.Join(api.ErrShort, api.ErrRange), api.ErrShort, false},
		{&api.Violation{Why: api.ErrWindow}, api.ErrWindow, false},
	} {
		if got := sentinels.Just(c.err, c.want); got != c.just {
			t.Errorf("Just(%v, %v): %v", c.err, c.want, got)
		}
	}
}

func TestBreach(t *testing.T) {
	why := api.ErrWindow
	var none *api.Violation
	for _, c := range []struct {
		err    error
		breach bool
	}{
		{&api.Violation{Stream: 7, Why: why}, true},
		{fmt.Errorf("wrapped: %w", &api.Violation{Stream: 7, Why: why}), true},
		{&api.Violation{Stream: 8, Why: why}, false},
		{&api.Violation{Stream: 7, Why: api.ErrCredit}, false},
		{&api.Violation{Stream: 7}, false},
		{errors.Join(&api.Violation{Stream: 7, Why: why}, api.ErrRange), false},
		{errors.Join(api.ErrProtocol, why), false},
		{why, false},
		{nil, false},
		{none, false},
	} {
		if got := sentinels.Breach(c.err, 7, why); got != c.breach {
			t.Errorf("Breach(%v): %v", c.err, got)
		}
	}
}
