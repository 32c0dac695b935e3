package code_test

import (
	"bytes"
	"reflect"
	"testing"

	"gazetteer/api"
	"gazetteer/code"
)

// roomy answers what list has, in a list with spare room, in which x stands.
func roomy[T any](list []T, x T) []T {
	out := make([]T, 0, len(list)+3)
	out = append(out, list...)
	for i := range 3 {
		out[:cap(out)][len(out)+i] = x
	}
	return out
}

func roomyData(d api.Data) api.Data {
	return api.Data{
		Bytes: roomy(d.Bytes, 77), Host: roomy(d.Host, "room"), Mail: roomy(d.Mail, "room"),
		Nums: roomy(d.Nums, 77), Texts: roomy(d.Texts, "room"),
	}
}

func roomyEntry(x code.Entry) code.Entry {
	x.Zone, x.Fact.Name, x.Fact.Zone = roomy(x.Zone, "room"), roomy(x.Fact.Name, "room"), roomy(x.Fact.Zone, "room")
	x.Fact.Soa, x.Fact.Set = roomyData(x.Fact.Soa), roomy(x.Fact.Set, address(77))
	for i, d := range x.Fact.Set {
		x.Fact.Set[i] = roomyData(d)
	}
	return x
}

// whole answers x in new memory, with all that its lists have room for within
// their lengths.
func whole(x reflect.Value) reflect.Value {
	out := reflect.New(x.Type()).Elem()
	switch x.Kind() {
	case reflect.Slice:
		x = x.Slice(0, x.Cap())
		out = reflect.MakeSlice(x.Type(), x.Len(), x.Len())
		for i := range x.Len() {
			out.Index(i).Set(whole(x.Index(i)))
		}
	case reflect.Struct:
		for i := range x.NumField() {
			out.Field(i).Set(whole(x.Field(i)))
		}
	default:
		out.Set(x)
	}
	return out
}

func picture(x any) any {
	return whole(reflect.ValueOf(x)).Interface()
}

// places are where all lists of x lie, each one that has room.
func places(x reflect.Value) (out []uintptr) {
	switch x.Kind() {
	case reflect.Slice:
		if x.Cap() > 0 {
			out = append(out, x.Pointer())
		}
		for i := range x.Len() {
			out = append(out, places(x.Index(i))...)
		}
	case reflect.Struct:
		for i := range x.NumField() {
			out = append(out, places(x.Field(i))...)
		}
	}
	return out
}

func TestWhatIsHandedInStays(t *testing.T) {
	for _, c := range samples() {
		x := roomyEntry(c.x)
		was := picture(x)
		encodes(t, x, c.want)
		if !reflect.DeepEqual(picture(x), was) {
			t.Errorf("changed: %s", tell(x))
		}
		b := roomy([]byte(c.want), 77)
		wasBytes := picture(b)
		if y, e := code.Decode(b); e != api.OK || !exactly(y, c.x) {
			t.Errorf("Decode(%.300q): %s, %d", b, tell(y), e)
		}
		if _, e := code.Decode(b[:len(b)-1]); e != api.ErrText {
			t.Errorf("Decode(%.300q) without its end: %d", b, e)
		}
		if !reflect.DeepEqual(picture(b), wasBytes) {
			t.Errorf("changed: %.300q", b)
		}
	}
	for _, x := range unsound() {
		x = roomyEntry(x)
		was := picture(x)
		refuses(t, x, api.ErrForm)
		if !reflect.DeepEqual(picture(x), was) {
			t.Errorf("changed: %s", tell(x))
		}
	}
}

// What is answered is new memory, and each list of it has a place of its own.
func TestAnswersShareNothing(t *testing.T) {
	for _, c := range samples() {
		b := []byte(c.want)
		x, _ := code.Decode(b)
		y, _ := code.Decode(b)
		all := append(places(reflect.ValueOf(x)), places(reflect.ValueOf(y))...)
		seen := map[uintptr]bool{}
		for _, at := range all {
			seen[at] = true
		}
		if len(seen) != len(all) {
			t.Errorf("%.300q: %d lists lie in %d places", b, len(all), len(seen))
		}
		for i := range b {
			b[i] ^= 255
		}
		if !exactly(x, c.x) {
			t.Errorf("what was read changed with its bytes: %s", tell(x))
		}
		first, _ := code.Encode(c.x)
		second, _ := code.Encode(c.x)
		for i := range first[:cap(first)] {
			first[:cap(first)][i] ^= 255
		}
		if third, _ := code.Encode(c.x); string(second) != c.want || !bytes.Equal(second, third) {
			t.Errorf("Encode(%s) shares memory", tell(c.x))
		}
	}
}
