package tree

import (
	"reflect"
	"testing"

	"commonform/api"
)

// R4: copies are equal, and share no memory.
func TestCopies(t *testing.T) {
	inner := api.Form{Kind: 99, Text: "x", Home: "P", Kids: []api.Form{{Kind: api.FormInt, Text: "1"}}}
	f := api.Form{Kind: api.FormVector, Kids: []api.Form{inner, {}, inner}}
	for _, made := range []api.Form{Copy(f), Copies([]api.Form{f, f})[1]} {
		if !reflect.DeepEqual(made, f) {
			t.Fatalf("the copy is %v", made)
		}
		made.Kids[0].Kids[0].Text = "2"
		made.Kids[1].Kind = 1
		if inner.Kids[0].Text != "1" || f.Kids[1].Kind != 0 || made.Kids[2].Kids[0].Text != "1" {
			t.Errorf("the copy shares memory")
		}
	}
	if l := Copies([]api.Form{}); l != nil || Copies(nil) != nil {
		t.Errorf("copies of nothing are %v", l)
	}
	if made := Copy(api.Form{Kind: api.FormCons, Kids: []api.Form{}}); made.Kids != nil {
		t.Errorf("an empty list is copied to %v", made.Kids)
	}
}
