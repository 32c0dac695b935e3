package sector_test

import (
	"bytes"
	"math/rand"
	"testing"

	"gazetteer/api"
	"gazetteer/sector"
)

// number is what some bytes are, the highest one first.
func number(b []byte) int {
	n := 0
	for _, x := range b {
		n = n*256 + int(x)
	}
	return n
}

// modelOpen is Open as the document tells it, byte by byte.
func modelOpen(b []byte) (h sector.Head, data []byte, e api.Errno) {
	if len(b) != 512 {
		return h, nil, api.ErrShort
	}
	count := number(b[14:16])
	if b[0] == 0 || b[13] == 0 || b[12] >= b[13] || count > 496 {
		return h, nil, api.ErrText
	}
	if len(bytes.Trim(b[16+count:], "\x00")) > 0 {
		return h, nil, api.ErrText
	}
	h = sector.Head{Kind: int(b[0]), Epoch: number(b[1:5]), Seq: number(b[5:12]), Part: int(b[12]), Parts: int(b[13])}
	return h, b[16 : 16+count], api.OK
}

// modelSeal is Seal as the document tells it: each byte by its place.
func modelSeal(h sector.Head, data []byte) ([]byte, api.Errno) {
	for _, p := range [][2]int{{h.Kind, 1 << 8}, {h.Epoch, 1 << 32}, {h.Seq, 1 << 56}, {h.Part, 1 << 8}, {h.Parts, 1 << 8}} {
		if p[0] < 0 || p[0] >= p[1] {
			return nil, api.ErrRange
		}
	}
	if h.Kind == 0 || h.Parts == 0 || h.Part >= h.Parts {
		return nil, api.ErrRange
	}
	if len(data) > 496 {
		return nil, api.ErrLarge
	}
	b := make([]byte, 512)
	b[0], b[12], b[13] = byte(h.Kind), byte(h.Part), byte(h.Parts)
	for at := 4; at >= 1; at-- {
		b[at] = byte(h.Epoch % 256)
		h.Epoch /= 256
	}
	for at := 11; at >= 5; at-- {
		b[at] = byte(h.Seq % 256)
		h.Seq /= 256
	}
	b[14], b[15] = byte(len(data)/256), byte(len(data)%256)
	for i, x := range data {
		b[16+i] = x
	}
	return b, api.OK
}

// draw is a number near one of a power of 2, or any small one.
func draw(r *rand.Rand, bits int) int {
	switch r.Intn(8) {
	case 0:
		return 1<<bits - r.Intn(3) + 1
	case 1:
		return -r.Intn(3)
	case 2:
		return int(r.Uint64())
	case 3:
		return r.Intn(4)
	default:
		return int(r.Uint64() >> (64 - bits))
	}
}

func TestSealAgreesWithModel(t *testing.T) {
	r := rand.New(rand.NewSource(1))
	made := 0
	for range 200000 {
		h := sector.Head{Kind: draw(r, 8), Epoch: draw(r, 32), Seq: draw(r, 56), Part: draw(r, 8), Parts: draw(r, 8)}
		data := make([]byte, r.Intn(520))
		r.Read(data)
		want, wantE := modelSeal(h, data)
		b, e := sector.Seal(h, data)
		if e != wantE || !bytes.Equal(b, want) {
			t.Fatalf("Seal(%+v, %s): %s, %d, not %s, %d", h, tell(data), tell(b), e, tell(want), wantE)
		}
		if e != api.OK {
			continue
		}
		made++
		opens(t, b, h, data)
	}
	if made < 1000 {
		t.Errorf("only %d sectors were made", made)
	}
}

func TestOpenAgreesWithModel(t *testing.T) {
	r := rand.New(rand.NewSource(2))
	opened := 0
	for range 200000 {
		b := make([]byte, 512)
		size := r.Intn(512)
		r.Read(b[:size])
		b[14], b[15] = byte(r.Intn(3)), byte(r.Intn(256))
		switch r.Intn(4) {
		case 0:
			b[14], b[15] = byte(max(size-16, 0)>>8), byte(max(size-16, 0))
		case 1:
			b[12] = byte(r.Intn(2))
		case 2:
			b = b[:511+r.Intn(2)]
		}
		want, wantData, wantE := modelOpen(b)
		h, data, e := sector.Open(b)
		if e != wantE || h != want || !bytes.Equal(data, wantData) {
			t.Fatalf("Open(%s): %+v, %s, %d, not %+v, %s, %d", tell(b), h, tell(data), e, want, tell(wantData), wantE)
		}
		if e == api.OK {
			opened++
		}
	}
	if opened < 1000 {
		t.Errorf("only %d sectors were opened", opened)
	}
}
