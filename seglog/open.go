package seglog

import (
	"slices"

	"gazetteer/api"
	"gazetteer/flash"
	"gazetteer/num"
	"gazetteer/super"
)

// least is how many sectors a log's device has at least.
const least = 4

// Open answers the log that lies on a device, or an empty one if none does.
func Open(d *flash.Device) (*Log, api.Errno) {
	if d.Len() < least {
		return nil, api.ErrArg
	}
	b, e := last(d)
	if e != api.OK {
		return nil, e
	}
	l := &Log{d: d, places: d.Len() - start, block: b}
	if !l.find() {
		return nil, api.ErrText
	}
	// From now on all that was found is sure; what lies behind it, of records that
	// were lost, is of an epoch ahead of this one.
	b.Gen, b.Epoch, b.Count = b.Gen+1, b.Epoch+1, len(l.records)
	if e := l.save(b); e != api.OK {
		return nil, e
	}
	return l, api.OK
}

// last answers the block that a log saved last, or, of a blank device, one as if it
// were ahead of the first.
func last(d *flash.Device) (super.Block, api.Errno) {
	b, e := super.Load(d)
	switch {
	case e == api.ErrNone && blank(d):
		return super.Block{Gen: -1, From: start}, api.OK
	case e == api.ErrNone, e == api.OK && !wrote(b, d.Len()):
		return super.Block{}, api.ErrText
	}
	return b, e
}

// blank tells whether nothing was ever written for good.
func blank(d *flash.Device) bool {
	for at := range d.Len() {
		// Of a torn sector there are no bytes.
		b, _ := d.Read(at)
		if slices.ContainsFunc(b, func(x byte) bool { return x != 0 }) {
			return false
		}
	}
	return true
}

// wrote tells whether a log on a device of so many sectors may have saved b. Each
// Open saves a block of the next epoch, each Drop one of the same.
func wrote(b super.Block, sectors int) bool {
	drops := b.Gen + 1 - b.Epoch
	switch {
	case b.Epoch < 1, drops < 0:
		return false
	case !num.Fits(b.Gen+1, 7), !num.Fits(b.Epoch+1, 4):
		// There would be no next one.
		return false
	case b.From < start, b.From >= sectors:
		return false
	case b.First == 0:
		return b.From == start && (b.Gen > 0 || b.Count == 0)
	}
	return drops > 0
}

// find takes up the records that lie on the device, and tells whether those are
// there that were sure when the block was saved. Those behind them are of the
// block's epoch, or were lost when a log ahead was opened. It ends where no place is
// left, too: in each lies a part of one record alone.
func (l *Log) find() bool {
	epoch := 1
	for {
		at := l.end()
		h, _, e := l.load(l.Next(), at)
		if len(l.records) >= l.block.Count {
			epoch = l.block.Epoch
		}
		if e != api.OK || h.Epoch < epoch || h.Epoch > l.block.Epoch {
			return len(l.records) >= l.block.Count
		}
		l.records = append(l.records, record{at: at, parts: h.Parts})
		epoch = h.Epoch
	}
}
