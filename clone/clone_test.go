package clone_test

import (
	"reflect"
	"testing"

	"gazetteer/api"
	"gazetteer/clone"
)

func data() api.Data {
	return api.Data{Bytes: []byte{1, 2}, Host: []string{"a", "b"}, Mail: []string{"c"}, Nums: []int{3, 4}, Texts: []string{"d"}}
}

func whole() api.Fact {
	return api.Fact{
		Name: []string{"e", "f"}, Type: 1, Kind: 2, Rank: 3, Got: 4, TTL: 5,
		Set: []api.Data{data(), data()}, Zone: []string{"g"}, Soa: data(),
	}
}

// places are where all lists of x lie, each one that has room.
func places(x reflect.Value) (out []uintptr) {
	switch x.Kind() {
	case reflect.Slice:
		if x.Cap() > 0 {
			out = append(out, x.Pointer())
		}
		for i := range x.Len() {
			out = append(out, places(x.Index(i))...)
		}
	case reflect.Struct:
		for i := range x.NumField() {
			out = append(out, places(x.Field(i))...)
		}
	}
	return out
}

// apart holds that got and x tell the same, each list in a place of its own.
func apart(t *testing.T, got, x any) {
	t.Helper()
	if !reflect.DeepEqual(got, x) {
		t.Errorf("%+v, want %+v", got, x)
	}
	all := append(places(reflect.ValueOf(x)), places(reflect.ValueOf(got))...)
	seen := map[uintptr]bool{}
	for _, at := range all {
		seen[at] = true
	}
	if len(seen) != len(all) {
		t.Errorf("%d lists lie in %d places", len(all), len(seen))
	}
}

func TestClone(t *testing.T) {
	apart(t, clone.Fact(whole()), whole())
	f := whole()
	apart(t, clone.Fact(f), f)
	d := data()
	apart(t, clone.Data(d), d)
	list := make([]int, 2, 9)
	apart(t, clone.List(list), list)
}

func TestCloneOfNothing(t *testing.T) {
	apart(t, clone.Fact(api.Fact{}), api.Fact{})
	apart(t, clone.Data(api.Data{}), api.Data{})
	if len(clone.List[int](nil)) != 0 || len(clone.List([]int{})) != 0 {
		t.Error("nothing is something")
	}
	f := api.Fact{Name: make([]string, 0, 3), Set: make([]api.Data, 0, 3), Soa: api.Data{Nums: make([]int, 0, 3)}}
	got := clone.Fact(f)
	if len(got.Name)+len(got.Set)+len(got.Soa.Nums) != 0 || len(places(reflect.ValueOf(got))) != 0 {
		t.Errorf("%+v", got)
	}
}

// What list has is not changed, nor is its spare room, and lists in it are shared.
func TestListKeepsWhatItHas(t *testing.T) {
	list := [][]int{{1}, {2}}[:1]
	got := clone.List(list)
	_ = append(got, nil)
	if list[:2][1][0] != 2 || &got[0][0] != &list[0][0] {
		t.Errorf("%v, %v", list[:2], got)
	}
}
