package sign

import (
	"go/build"
	"slices"
	"strings"
	"testing"
)

// TestCalls: layer 12 calls layers 2 and 11, and the package api, by the document's map.
func TestCalls(t *testing.T) {
	may := []string{"lychgate/api", "lychgate/syntax", "lychgate/shape"}
	p, err := build.ImportDir(".", 0)
	if err != nil {
		t.Fatal(err)
	}
	for _, path := range p.Imports {
		if strings.HasPrefix(path, "lychgate") && !slices.Contains(may, path) {
			t.Errorf("layer 12 calls layers 2 and 11 alone: not %s", path)
		}
	}
}
