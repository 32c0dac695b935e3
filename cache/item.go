package cache

import (
	"gazetteer/api"
	"gazetteer/clone"
	"gazetteer/fact"
	"gazetteer/name"
	"gazetteer/ttl"
)

const (
	maxKind = 65534 // of what Get and Old are asked for, as of facts
	noName  = 0     // the type of a fact that there is no such name
)

// item is a fact that is known.
type item struct {
	api.Fact
	used int // the number of its last use, which no other item's has
}

func (it *item) copy() *item {
	return &item{Fact: clone.Fact(it.Fact), used: it.used}
}

// moment is when facts are asked for.
type moment struct {
	now, stale int
}

func (m moment) fresh(it *item) bool {
	return ttl.Fresh(it.Got, it.TTL, m.now)
}

func (m moment) old(it *item) bool {
	return ttl.Stale(it.Got, it.TTL, m.stale, m.now)
}

// takes tells whether f may be taken, but for what is there already.
func (c *Cache) takes(f api.Fact) bool {
	return c != nil && c.most > 0 && fact.Sound(f)
}

// lay keeps f, which is sound.
func (c *Cache) lay(f api.Fact) {
	it := &item{Fact: clone.Fact(f)}
	c.use(it)
	c.items[fact.Key(f)] = it
	if len(c.items) > c.most {
		delete(c.items, fact.Key(c.first().Fact))
	}
}

// use notes that it was used last.
func (c *Cache) use(it *item) {
	c.uses++
	it.used = c.uses
}

// first answers what was used longest ago.
func (c *Cache) first() *item {
	var first *item
	for _, it := range c.items {
		if first == nil || it.used < first.used {
			first = it
		}
	}
	return first
}

// at answers the item of n and a type, nil if there is none.
func (c *Cache) at(n []string, kind int) *item {
	// The key of what is no name may be that of a name.
	if !name.Sound(n) {
		return nil
	}
	return c.items[fact.Key(api.Fact{Name: n, Type: kind})]
}

// find answers the item of n and a type, if it holds, or else the one that there
// is no such name, if that holds; nil if neither does.
func (c *Cache) find(n []string, kind int, holds func(it *item) bool) *item {
	if !isKind(kind) {
		return nil
	}
	for _, k := range []int{kind, noName} {
		if it := c.at(n, k); it != nil && holds(it) {
			return it
		}
	}
	return nil
}

// tell uses it, if it is any, and answers its fact.
func (c *Cache) tell(it *item) (api.Fact, bool) {
	if it == nil {
		return api.Fact{}, false
	}
	c.use(it)
	return clone.Fact(it.Fact), true
}

// isTime tells whether a time may be.
func isTime(now int) bool {
	return now >= 0 && now <= api.MaxTime
}

// isKind tells whether there are facts of a type that tell of it alone.
func isKind(kind int) bool {
	return kind >= 1 && kind <= maxKind && kind != api.OPT && kind != api.ANY
}
