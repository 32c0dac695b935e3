// Package clone answers values of package api in memory of their own: what is
// handed in is not kept, and what is kept is not handed out.
package clone

import "gazetteer/api"

// Fact answers f.
func Fact(f api.Fact) api.Fact {
	f.Name, f.Zone = List(f.Name), List(f.Zone)
	f.Set, f.Soa = List(f.Set), Data(f.Soa)
	for i, d := range f.Set {
		f.Set[i] = Data(d)
	}
	return f
}

// Data answers d.
func Data(d api.Data) api.Data {
	return api.Data{
		Bytes: List(d.Bytes),
		Host:  List(d.Host),
		Mail:  List(d.Mail),
		Nums:  List(d.Nums),
		Texts: List(d.Texts),
	}
}

// List answers a list of what list has; the lists in that, if any, are shared.
func List[T any](list []T) []T {
	return append([]T(nil), list...)
}
