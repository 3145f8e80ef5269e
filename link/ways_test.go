package link

import (
	"go/build"
	"strings"
	"testing"
)

// TestCalls: layer 8 calls layers 2 and 7, and the package api, by the document's map.
func TestCalls(t *testing.T) {
	p, err := build.ImportDir(".", 0)
	if err != nil {
		t.Fatal(err)
	}
	may := map[string]bool{"lychgate/api": true, "lychgate/syntax": true, "lychgate/code": true}
	for _, path := range p.Imports {
		if strings.HasPrefix(path, "lychgate") && !may[path] {
			t.Errorf("layer 8 calls layers 2 and 7 alone: not %s", path)
		}
	}
}
