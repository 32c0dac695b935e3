package seglog

import (
	"gazetteer/api"
	"gazetteer/sector"
)

// seal answers the writes of the next record, which is to lie at r.
func (l *Log) seal(r record, b []byte) ([]api.Write, api.Errno) {
	var out []api.Write
	for part := range r.parts {
		h := sector.Head{Kind: kind, Epoch: l.Epoch(), Seq: l.Next(), Part: part, Parts: r.parts}
		s, e := sector.Seal(h, b[part*most:min((part+1)*most, len(b))])
		if e != api.OK {
			return nil, e
		}
		out = append(out, api.Write{At: l.around(r.at + part), Data: s})
	}
	return out, api.OK
}

// load answers the record of a number that begins at a place, and the head that its
// parts have but for Part; ErrText, if another one lies there, or not all of it.
func (l *Log) load(seq, at int) (sector.Head, []byte, api.Errno) {
	first, _, e := l.open(at)
	if e != api.OK {
		return sector.Head{}, nil, e
	}
	want := sector.Head{Kind: kind, Epoch: first.Epoch, Seq: seq, Parts: first.Parts}
	var out []byte
	for part := range want.Parts {
		h, b, e := l.open(l.around(at + part))
		if e != api.OK {
			return sector.Head{}, nil, e
		}
		want.Part = part
		// Each part but the last one is full.
		if h != want || len(out) != part*most {
			return sector.Head{}, nil, api.ErrText
		}
		out = append(out, b...)
	}
	if len(out) > api.MaxRecord || parts(len(out)) != want.Parts {
		return sector.Head{}, nil, api.ErrText
	}
	return first, out, api.OK
}

// open answers what lies in a place, or waits to be written there.
func (l *Log) open(at int) (sector.Head, []byte, api.Errno) {
	for _, w := range l.unsure {
		if w.At == at {
			return sector.Open(w.Data)
		}
	}
	b, e := l.d.Read(at)
	if e != api.OK {
		return sector.Head{}, nil, e
	}
	return sector.Open(b)
}
