package seglog_test

import (
	"bytes"
	"testing"

	"gazetteer/api"
	"gazetteer/flash"
	"gazetteer/num"
	"gazetteer/sector"
	"gazetteer/seglog"
	"gazetteer/super"
)

// unopened holds Open's error, and that the device is as it was.
func unopened(t *testing.T, d *flash.Device, want api.Errno) {
	t.Helper()
	was := d.Copy()
	if l, e := seglog.Open(d); e != want || l != nil {
		t.Errorf("Open: %v, %d, not %d", l, e, want)
	}
	if d != nil {
		alike(t, d, was)
	}
}

// put writes bytes past the log, and makes them sure.
func put(t *testing.T, d *flash.Device, at int, b []byte) {
	t.Helper()
	ok(t, "Write", d.Write(at, b))
	ok(t, "Sync", d.Sync())
}

// tear makes a sector one that cannot be read.
func tear(t *testing.T, d *flash.Device, at int) {
	t.Helper()
	ok(t, "Write", d.Write(at, nil))
	ok(t, "Crash", d.Crash(0, 1))
}

// sealed is a sector past the log.
func sealed(t *testing.T, h sector.Head, data []byte) []byte {
	t.Helper()
	b, e := sector.Seal(h, data)
	ok(t, "Seal", e)
	return b
}

// putBlock lets a block count, past the log, and no other one.
func putBlock(t *testing.T, d *flash.Device, b super.Block) {
	t.Helper()
	var data []byte
	for _, n := range []int{b.Gen, b.Epoch, b.First, b.From, b.Count} {
		data = num.Put(data, n, 7)
	}
	put(t, d, b.Gen%2, sealed(t, sector.Head{Kind: 1, Parts: 1}, data))
	tear(t, d, 1-b.Gen%2)
	if got, e := super.Load(d); e != api.OK || got != b {
		t.Fatalf("Load: %+v, %d", got, e)
	}
}

// putRecord lets a record of one place lie there, past the log.
func putRecord(t *testing.T, d *flash.Device, at, epoch, seq int) {
	t.Helper()
	put(t, d, at, sealed(t, sector.Head{Kind: 2, Epoch: epoch, Seq: seq, Parts: 1}, []byte{byte(seq)}))
}

func TestDevicesThatAreTooSmall(t *testing.T) {
	unopened(t, nil, api.ErrArg)
	unopened(t, &flash.Device{}, api.ErrArg)
	for sectors := 1; sectors < 4; sectors++ {
		unopened(t, device(t, sectors), api.ErrArg)
		down := device(t, sectors)
		ok(t, "Limit", down.Limit(1))
		errs(t, "Sync", down.Sync(), api.ErrDown)
		unopened(t, down, api.ErrArg)
		bad := device(t, sectors)
		put(t, bad, 0, []byte{1})
		unopened(t, bad, api.ErrArg)
	}
	opened(t, device(t, 4))
}

func TestOpenWithoutPower(t *testing.T) {
	for _, sectors := range []int{4, 5, 100} {
		for used := range 3 {
			d := device(t, sectors)
			switch used {
			case 1:
				opened(t, d)
			case 2:
				put(t, d, 3, []byte{1})
			}
			ok(t, "Limit", d.Limit(1))
			errs(t, "Sync", d.Sync(), api.ErrDown)
			unopened(t, d, api.ErrDown)
			unopened(t, d, api.ErrDown)
		}
	}
}

// The power goes while it is opened.
func TestOpenAtTheLimit(t *testing.T) {
	for used := range 2 {
		for limit := 1; limit <= 3; limit++ {
			d := device(t, 6)
			if used == 1 {
				appends(t, opened(t, d), nil, 0)
			}
			ok(t, "Limit", d.Limit(limit))
			if l, e := seglog.Open(d); e != api.ErrDown || l != nil {
				t.Errorf("Open: %v, %d", l, e)
			}
			unopened(t, d, api.ErrDown)
		}
	}
}

// A device without a block, with anything on it that can be read and is not 0.
func TestDevicesOfOthers(t *testing.T) {
	for _, sectors := range []int{4, 7} {
		for at := range sectors {
			for _, place := range []int{0, 1, 15, 16, 100, 510, 511} {
				for _, x := range []byte{1, 2, 128, 255} {
					b := make([]byte, 512)
					b[place] = x
					d := device(t, sectors)
					put(t, d, at, b)
					unopened(t, d, api.ErrText)
					for other := range sectors {
						if other != at {
							tear(t, d, other)
						}
					}
					unopened(t, d, api.ErrText)
					tear(t, d, at)
					holds(t, opened(t, d), sectors-2, 0)
				}
			}
		}
	}
}

// What is unsure is read as what is sure.
func TestUnsureDevices(t *testing.T) {
	d := device(t, 5)
	ok(t, "Write", d.Write(4, []byte{1}))
	unopened(t, d, api.ErrText)
	ok(t, "Write", d.Write(4, nil))
	holds(t, opened(t, d), 3, 0)
}

// Records that no block tells of, and a block where none counts.
func TestLogsWithoutBlock(t *testing.T) {
	d := device(t, 6)
	putRecord(t, d, 2, 1, 0)
	unopened(t, d, api.ErrText)
	d, l := fresh(t, 4)
	appends(t, l, []byte{7}, 0)
	ok(t, "Sync", l.Sync())
	block, _ := d.Read(0)
	put(t, d, 1, block)
	tear(t, d, 0)
	unopened(t, d, api.ErrText)
	tear(t, d, 1)
	unopened(t, d, api.ErrText)
	tear(t, d, 2)
	holds(t, opened(t, d), 4, 0)
}

// Torn sectors, some or all, are those of no log.
func TestTornDevices(t *testing.T) {
	for bits := range 64 {
		d := device(t, 6)
		for at := range 6 {
			if bits>>at&1 == 1 {
				tear(t, d, at)
			}
		}
		l := opened(t, d)
		holds(t, l, 4, 0)
		all := [][]byte{bytesOf(900, 1), bytesOf(900, 2)}
		appends(t, l, all[0], 0)
		appends(t, l, all[1], 1)
		ok(t, "Sync", l.Sync())
		holds(t, opened(t, d), 4, 0, all...)
	}
}

func TestBlocksThatNoLogWrote(t *testing.T) {
	most := 1<<56 - 1
	for _, b := range []super.Block{
		{},
		{Gen: 0, Epoch: 0, From: 2},
		{Gen: 0, Epoch: 1, From: 0},
		{Gen: 0, Epoch: 1, From: 1},
		{Gen: 0, Epoch: 1, From: 3},
		{Gen: 0, Epoch: 1, From: 2, Count: 1},
		{Gen: 0, Epoch: 1, First: 1, From: 2},
		{Gen: 0, Epoch: 1, First: 1, From: 3},
		{Gen: 0, Epoch: 2, From: 2},
		{Gen: 1, Epoch: 0, From: 2},
		{Gen: 1, Epoch: 3, From: 2},
		{Gen: 1, Epoch: 2, First: 1, From: 3},
		{Gen: 1, Epoch: 1, First: 0, From: 3},
		{Gen: 1, Epoch: 1, First: 1, From: 10},
		{Gen: 1, Epoch: 1, First: 1, From: 1},
		{Gen: 1, Epoch: 1, First: 1, From: 0},
		{Gen: 1, Epoch: 1, First: 1, From: most},
		{Gen: 1, Epoch: 1, First: 1, From: 3, Count: 1},
		{Gen: 1, Epoch: 1, First: 1, From: 3, Count: most},
		{Gen: 5, Epoch: 9, First: 9, From: 9, Count: 9},
		{Gen: most, Epoch: 1, First: 1, From: 3},
		{Gen: most, Epoch: most, First: 1, From: 3},
		{Gen: most - 1, Epoch: 1<<32 - 1, First: 1, From: 3},
		{Gen: most - 1, Epoch: 1 << 32, First: 1, From: 3},
		{Gen: most, Epoch: most, First: most, From: most, Count: most},
	} {
		d := device(t, 10)
		putBlock(t, d, b)
		unopened(t, d, api.ErrText)
	}
}

// The first block of all tells of no record, even if one lies there.
func TestFirstBlock(t *testing.T) {
	for count := range 2 {
		d := device(t, 10)
		putBlock(t, d, super.Block{Gen: 0, Epoch: 1, From: 2, Count: count})
		putRecord(t, d, 2, 1, 0)
		if count == 0 {
			holds(t, opened(t, d), 8, 0, []byte{0})
		} else {
			unopened(t, d, api.ErrText)
		}
	}
}

// Blocks as a log may have written them.
func TestBlocksOfLogs(t *testing.T) {
	for _, b := range []super.Block{
		{Gen: 0, Epoch: 1, From: 2},
		{Gen: 1, Epoch: 2, From: 2},
		{Gen: 1, Epoch: 1, From: 2},
		{Gen: 1, Epoch: 1, First: 1, From: 3},
		{Gen: 1, Epoch: 1, First: 1, From: 9},
		{Gen: 2, Epoch: 2, First: 8, From: 2},
		{Gen: 2, Epoch: 1, First: 1 << 40, From: 5},
		{Gen: 1<<56 - 2, Epoch: 1<<32 - 2, First: 1 << 55, From: 5},
	} {
		d := device(t, 10)
		putBlock(t, d, b)
		l := opened(t, d)
		holds(t, l, 8, b.First)
		if l.Epoch() != b.Epoch+1 {
			t.Errorf("Epoch: %d", l.Epoch())
		}
		appends(t, l, bytesOf(3000, 1), b.First)
		holds(t, l, 8, b.First, bytesOf(3000, 1))
		ok(t, "Sync", l.Sync())
		if b.Gen < 3 {
			holds(t, opened(t, d), 8, b.First, bytesOf(3000, 1))
		}
	}
}

// Numbers run out at last; that is told, and changes nothing.
func TestLastNumber(t *testing.T) {
	d := device(t, 10)
	first := 1<<56 - 2
	putBlock(t, d, super.Block{Gen: 1, Epoch: 1, First: first, From: 9})
	l := opened(t, d)
	appends(t, l, bytesOf(1000, 1), first)
	appends(t, l, bytesOf(1000, 2), first+1)
	for range 2 {
		refuses(t, l, bytesOf(900, 3), api.ErrRange)
		holds(t, l, 8, first, bytesOf(1000, 1), bytesOf(1000, 2))
	}
	ok(t, "Sync", l.Sync())
	holds(t, opened(t, d), 8, first, bytesOf(1000, 1), bytesOf(1000, 2))
}

// part is what lies in a place.
type part struct {
	at   int
	head sector.Head
	data []byte
}

// laid are records 4 and 5 of two places each, and 6 of one, from place 4 on, where
// so many were sure when the block was saved, and those in an epoch ahead of its 3.
func laid(sure int) []part {
	epoch := func(i int) int {
		if i < sure {
			return 2
		}
		return 3
	}
	return []part{
		{4, sector.Head{Kind: 2, Epoch: epoch(0), Seq: 4, Part: 0, Parts: 2}, bytesOf(496, 1)},
		{5, sector.Head{Kind: 2, Epoch: epoch(0), Seq: 4, Part: 1, Parts: 2}, bytesOf(9, 2)},
		{6, sector.Head{Kind: 2, Epoch: epoch(1), Seq: 5, Part: 0, Parts: 2}, bytesOf(496, 3)},
		{7, sector.Head{Kind: 2, Epoch: epoch(1), Seq: 5, Part: 1, Parts: 2}, bytesOf(496, 4)},
		{8, sector.Head{Kind: 2, Epoch: epoch(2), Seq: 6, Part: 0, Parts: 1}, bytesOf(5, 5)},
	}
}

// recordOf tells of which of laid's records each part is.
var recordOf = [5]int{0, 0, 1, 1, 2}

// lay puts parts onto a device, with a block of epoch 3 that tells of so many
// records as sure.
func lay(t *testing.T, parts []part, sure int) *flash.Device {
	t.Helper()
	d := device(t, 10)
	putBlock(t, d, super.Block{Gen: 7, Epoch: 3, First: 4, From: 4, Count: sure})
	for _, p := range parts {
		put(t, d, p.at, sealed(t, p.head, p.data))
	}
	return d
}

// finds holds that so many of laid's records are found, from the first one on. If
// one is not there that was sure, no log wrote the block.
func finds(t *testing.T, d *flash.Device, sure, found int) {
	t.Helper()
	if found < sure {
		unopened(t, d, api.ErrText)
		return
	}
	all := [][]byte{
		append(bytesOf(496, 1), bytesOf(9, 2)...),
		append(bytesOf(496, 3), bytesOf(496, 4)...),
		bytesOf(5, 5),
	}
	holds(t, opened(t, d), 8, 4, all[:found]...)
}

func TestRecordsThatAreNotThere(t *testing.T) {
	for sure := range 4 {
		finds(t, lay(t, laid(sure), sure), sure, 3)
		for i, record := range recordOf {
			for _, b := range [][]byte{nil, {1}, {2}, {2, 0, 0, 0, 3, 0, 0, 0, 0, 0, 0, 4, 0, 0}} {
				d := lay(t, laid(sure), sure)
				put(t, d, 4+i, b)
				finds(t, d, sure, record)
			}
			d := lay(t, laid(sure), sure)
			tear(t, d, 4+i)
			finds(t, d, sure, record)
		}
	}
}

// Heads that differ in one number are of no part of the record, or of another one.
func TestHeadsOfOthers(t *testing.T) {
	changes := []func(h *sector.Head){
		func(h *sector.Head) { h.Kind = 1 },
		func(h *sector.Head) { h.Kind = 3 },
		func(h *sector.Head) { h.Kind = 255 },
		func(h *sector.Head) { h.Epoch = 0 },
		func(h *sector.Head) { h.Epoch = 1 },
		func(h *sector.Head) { h.Epoch = 4 },
		func(h *sector.Head) { h.Epoch = 1<<32 - 1 },
		func(h *sector.Head) { h.Seq-- },
		func(h *sector.Head) { h.Seq++ },
		func(h *sector.Head) { h.Seq += 256 },
		func(h *sector.Head) { h.Seq = 0 },
		func(h *sector.Head) { h.Part, h.Parts = 1-h.Part, 2 },
		func(h *sector.Head) { h.Parts++ },
		func(h *sector.Head) { h.Part, h.Parts = h.Part+2, h.Parts+2 },
		func(h *sector.Head) { h.Parts = 255 },
	}
	for sure := range 4 {
		for i, record := range recordOf {
			for n, change := range changes {
				parts := laid(sure)
				change(&parts[i].head)
				d := lay(t, parts, sure)
				finds(t, d, sure, record)
				if t.Failed() {
					t.Fatalf("%d sure, part %d, change %d", sure, i, n)
				}
			}
		}
	}
}

// A record's epoch is that of all its parts. It is not below that of the one ahead,
// nor above the block's; behind those that were sure it is the block's.
func TestEpochsOfRecords(t *testing.T) {
	for sure := range 4 {
		for drawn := range 5 * 5 * 5 {
			epochs := [3]int{drawn % 5, drawn / 5 % 5, drawn / 25}
			parts := laid(sure)
			for i, record := range recordOf {
				parts[i].head.Epoch = epochs[record]
			}
			found, least := 0, 1
			for i, epoch := range epochs {
				if i >= sure {
					least = 3
				}
				if epoch < least || epoch > 3 {
					break
				}
				found, least = i+1, epoch
			}
			finds(t, lay(t, parts, sure), sure, found)
		}
	}
	for _, i := range []int{0, 1, 2, 3} {
		for _, epoch := range []int{1, 2, 3} {
			parts := laid(3)
			if parts[i].head.Epoch != epoch {
				parts[i].head.Epoch = epoch
				finds(t, lay(t, parts, 3), 3, recordOf[i])
			}
		}
	}
}

// Parts but the last one are full, and a last one of several is not empty.
func TestDataOfParts(t *testing.T) {
	for sure := range 4 {
		for _, size := range []int{0, 1, 9, 494, 495} {
			for _, i := range []int{0, 2} {
				parts := laid(sure)
				parts[i].data = parts[i].data[:size]
				finds(t, lay(t, parts, sure), sure, recordOf[i])
			}
		}
		for _, i := range []int{1, 3} {
			parts := laid(sure)
			parts[i].data = nil
			finds(t, lay(t, parts, sure), sure, recordOf[i])
		}
	}
}

// A record has at most MaxRecord bytes.
func TestRecordsThatAreTooLarge(t *testing.T) {
	for _, size := range []int{16383, 16384, 16385, 34 * 496, 34*496 + 1, 255 * 496} {
		d := device(t, 300)
		opened(t, d)
		b, n := bytesOf(size, 1), placesOf(size)
		for i := range n {
			h := sector.Head{Kind: 2, Epoch: 1, Part: i, Parts: n}
			put(t, d, 2+i, sealed(t, h, b[i*496:min(size, i*496+496)]))
		}
		if size > 16384 {
			holds(t, opened(t, d), 298, 0)
		} else {
			holds(t, opened(t, d), 298, 0, b)
		}
	}
}

// A record does not take more places than there are left.
func TestRecordsWithoutRoom(t *testing.T) {
	for _, sure := range []int{0, 1, 2} {
		d := device(t, 5)
		putBlock(t, d, super.Block{Gen: 5, Epoch: 1, First: 9, From: 4, Count: sure})
		putRecord(t, d, 4, 1, 9)
		for i := range 2 {
			h := sector.Head{Kind: 2, Epoch: 1, Seq: 10, Part: i, Parts: 2}
			put(t, d, 2+i, sealed(t, h, bytesOf(496, i)))
		}
		holds(t, opened(t, d), 3, 9, []byte{9}, append(bytesOf(496, 0), bytesOf(496, 1)...))
	}
	// All places are of the first record: none is left for it as the second one.
	d := device(t, 4)
	putBlock(t, d, super.Block{Gen: 5, Epoch: 1, First: 9, From: 2, Count: 3})
	putRecord(t, d, 2, 1, 9)
	putRecord(t, d, 3, 1, 10)
	unopened(t, d, api.ErrText)
	putBlock(t, d, super.Block{Gen: 6, Epoch: 1, First: 9, From: 3, Count: 1})
	putRecord(t, d, 3, 1, 9)
	holds(t, opened(t, d), 2, 9, []byte{9})
}

// Read tells what is wrong with a place that another one wrote to.
func TestReadOfWhatIsGone(t *testing.T) {
	for torn := range 2 {
		d, l := fresh(t, 6)
		appends(t, l, bytesOf(700, 1), 0)
		appends(t, l, bytesOf(1, 2), 1)
		ok(t, "Sync", l.Sync())
		if torn == 1 {
			tear(t, d, 3)
			unread(t, l, 0, api.ErrTorn)
		} else {
			put(t, d, 3, nil)
			unread(t, l, 0, api.ErrText)
		}
		if b, e := l.Read(1); e != api.OK || !bytes.Equal(b, bytesOf(1, 2)) {
			t.Errorf("Read: %v, %d", b, e)
		}
	}
}
