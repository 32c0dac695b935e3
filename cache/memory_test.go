package cache_test

import (
	"reflect"
	"testing"

	"gazetteer/api"
	"gazetteer/cache"
)

// full is a fact of each kind, with as many lists as it may have.
func full() []api.Fact {
	mx := api.Fact{Name: name("www.a"), Type: 15, Kind: 1, Rank: 3, Got: 10, TTL: 5, Set: []api.Data{
		{Nums: []int{1}, Host: name("x.a")}, {Nums: []int{2}, Host: name("y.a")},
	}}
	not := noData("www.a", 1, 3, 10, 5)
	not.Zone = name("a")
	gone := noName("www.a", 3, 10, 5)
	gone.Zone = name("www.a")
	return []api.Fact{mx, not, gone, text("www.a", 3, 10, 5), has("www.b", 1, 3, 10, 5)}
}

// roomy answers what list has, in a list with spare room, in which x stands.
func roomy[T any](list []T, x T) []T {
	out := make([]T, 0, len(list)+3)
	out = append(out, list...)
	for i := range 3 {
		out[:cap(out)][len(out)+i] = x
	}
	return out
}

func roomyData(d api.Data) api.Data {
	return api.Data{
		Bytes: roomy(d.Bytes, 77), Host: roomy(d.Host, "room"), Mail: roomy(d.Mail, "room"),
		Nums: roomy(d.Nums, 77), Texts: roomy(d.Texts, "room"),
	}
}

func roomyFact(f api.Fact) api.Fact {
	f.Name, f.Zone, f.Soa = roomy(f.Name, "room"), roomy(f.Zone, "room"), roomyData(f.Soa)
	f.Set = roomy(f.Set, address(77))
	for i, d := range f.Set {
		f.Set[i] = roomyData(d)
	}
	return f
}

// whole answers x in new memory, with all that its lists have room for within
// their lengths.
func whole(x reflect.Value) reflect.Value {
	out := reflect.New(x.Type()).Elem()
	switch x.Kind() {
	case reflect.Slice:
		x = x.Slice(0, x.Cap())
		out = reflect.MakeSlice(x.Type(), x.Len(), x.Len())
		for i := range x.Len() {
			out.Index(i).Set(whole(x.Index(i)))
		}
	case reflect.Struct:
		for i := range x.NumField() {
			out.Field(i).Set(whole(x.Field(i)))
		}
	default:
		out.Set(x)
	}
	return out
}

func picture(x any) any {
	return whole(reflect.ValueOf(x)).Interface()
}

// spoil writes over all that the lists of x have, and have room for.
func spoil(x reflect.Value) {
	switch x.Kind() {
	case reflect.Slice:
		x = x.Slice(0, x.Cap())
		for i := range x.Len() {
			spoil(x.Index(i))
		}
	case reflect.Struct:
		for i := range x.NumField() {
			spoil(x.Field(i))
		}
	case reflect.String:
		x.SetString("spoilt")
	case reflect.Int:
		x.SetInt(-77)
	case reflect.Uint8:
		x.SetUint(x.Uint() ^ 255)
	}
}

// spoilFact writes over the lists that f has.
func spoilFact(f api.Fact) {
	spoil(reflect.ValueOf(&f).Elem())
}

// What is handed in is neither changed nor kept.
func TestWhatIsHandedIn(t *testing.T) {
	for i := range full() {
		for what, take := range map[string]func(c *cache.Cache, f api.Fact) bool{
			"Put": func(c *cache.Cache, f api.Fact) bool { return c.Put(f, 10) },
			"Lay": func(c *cache.Cache, f api.Fact) bool { return c.Lay(f) },
		} {
			c := begin(t, 5, 5)
			f := roomyFact(full()[i])
			was := picture(f)
			if !take(c, f) || !take(c, f) {
				t.Errorf("%s of fact %d is false", what, i)
			}
			if !reflect.DeepEqual(picture(f), was) {
				t.Errorf("%s changed fact %d", what, i)
			}
			spoilFact(f)
			knows(t, c, full()[i])
		}
	}
	c := begin(t, 5, 5)
	for _, f := range full() {
		c.Put(f, 10)
	}
	for _, s := range []string{"WWW.a", "x", "www.B"} {
		n := roomy(name(s), "room")
		was := picture(n)
		c.Get(n, 1, 10)
		c.Old(n, 1, 15)
		c.Look(n, 1)
		c.Flush(n)
		if !reflect.DeepEqual(picture(n), was) {
			t.Errorf("the name %q is changed", s)
		}
	}
}

// answers are all ways to be told the fact f.
func answers() map[string]func(c *cache.Cache, f api.Fact) (api.Fact, bool) {
	return map[string]func(c *cache.Cache, f api.Fact) (api.Fact, bool){
		"Get":  func(c *cache.Cache, f api.Fact) (api.Fact, bool) { return c.Get(f.Name, asked(f), 14) },
		"Old":  func(c *cache.Cache, f api.Fact) (api.Fact, bool) { return c.Old(f.Name, asked(f), 15) },
		"Look": func(c *cache.Cache, f api.Fact) (api.Fact, bool) { return c.Look(f.Name, f.Type) },
		"All":  func(c *cache.Cache, f api.Fact) (api.Fact, bool) { return c.All()[0], true },
	}
}

// asked is a type by which f is told, if it alone is there.
func asked(f api.Fact) int {
	return max(f.Type, 1)
}

// What is answered is in new memory: it is not that which is kept, nor do two of
// its lists share any.
func TestWhatIsAnswered(t *testing.T) {
	for i, want := range full() {
		for what, answer := range answers() {
			c := begin(t, 5, 5)
			c.Put(want, 10)
			f, ok := answer(c, want)
			tells(t, f, ok, full()[i])
			spoilFact(f)
			knows(t, c, full()[i])
			if !exactly(want, full()[i]) {
				t.Errorf("%s of fact %d answers what was handed in", what, i)
			}
			first, _ := answer(c, full()[i])
			second, _ := answer(c, full()[i])
			spoilFact(second)
			if !exactly(first, full()[i]) {
				t.Errorf("%s: two answers of fact %d share memory", what, i)
			}
		}
	}
	c := begin(t, 5, 5)
	for _, f := range full() {
		c.Put(f, 10)
	}
	for i := range full() {
		all := c.All()
		spoilFact(all[i])
		for j, f := range all {
			if i != j && !exactly(f, full()[j]) {
				t.Errorf("All's facts %d and %d share memory", i, j)
			}
		}
	}
	knows(t, c, full()...)
}

// lists are the places of all lists of x, each one that has something.
func lists(x reflect.Value) []uintptr {
	var out []uintptr
	switch x.Kind() {
	case reflect.Slice:
		if x.Cap() > 0 {
			out = append(out, x.Pointer())
		}
		for i := range x.Len() {
			out = append(out, lists(x.Index(i))...)
		}
	case reflect.Struct:
		for i := range x.NumField() {
			out = append(out, lists(x.Field(i))...)
		}
	}
	return out
}

// No two lists of an answer are one, though those of what was handed in are.
func TestNoTwoListsAreOne(t *testing.T) {
	n := name("www.a")
	f := noData("", 1, 3, 10, 5)
	f.Name, f.Zone, f.Soa.Host, f.Soa.Mail = n, n[1:], n, n
	two := api.Fact{Name: n, Type: 2, Kind: 1, Rank: 3, Got: 10, TTL: 5, Set: []api.Data{{Host: n}, {Host: n[1:]}}}
	for what, answer := range answers() {
		for _, f := range []api.Fact{f, two} {
			c := begin(t, 5, 5)
			c.Put(f, 10)
			got, ok := answer(c, f)
			tells(t, got, ok, f)
			seen := map[uintptr]bool{}
			for _, at := range lists(reflect.ValueOf(got)) {
				if seen[at] {
					t.Errorf("%s: two lists of %+v are one", what, got)
				}
				seen[at] = true
			}
		}
	}
}

// Copy does the same, and neither touches the other.
func TestCopy(t *testing.T) {
	c := begin(t, 5, 5)
	for _, f := range full() {
		c.Put(f, 10)
	}
	c.Get(name("www.a"), 1, 10)
	was := c.All()
	copied := c.Copy()
	knows(t, copied, was...)
	// Its limits are the same, too.
	olds(t, copied, "www.b", 1, 19, was[3])
	olds(t, copied, "www.b", 1, 20, none)
	puts(t, copied, has("x", 1, 1, 10, 5), 10, true)
	if copied.Len() != 5 {
		t.Errorf("%d facts are in the copy", copied.Len())
	}
	copied.Get(name("www.a"), 16, 10)
	copied.Lay(has("www.a", 1, 1, 10, 5))
	copied.Flush(name("b"))
	knows(t, c, was...)
	copied = c.Copy()
	c.Get(name("www.a"), 16, 10)
	c.Flush(name("b"))
	c.Put(has("x", 1, 1, 10, 5), 10)
	knows(t, copied, was...)
	c.Flush(nil)
	knows(t, copied, was...)
	knows(t, c)
	knows(t, begin(t, 5, 5).Copy())
}

// What a copy knows is used by the copy alone, the same facts one by one.
func TestCopyIsUsedAlone(t *testing.T) {
	for at := range full() {
		c := begin(t, 5, 5)
		for _, f := range full() {
			c.Put(f, 10)
		}
		was := c.All()
		one, other := c.Copy(), c.Copy()
		f := was[at]
		one.Get(f.Name, asked(f), 10)
		knows(t, c, was...)
		knows(t, other, was...)
	}
}
