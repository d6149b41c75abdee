package wal_test

import (
	"bytes"
	"math"
	"slices"
	"testing"

	"estafette/api"
	"estafette/disk"
	"estafette/wal"
)

// full is a sector of one byte.
func full(c byte) []byte { return bytes.Repeat([]byte{c}, api.SectorSize) }

func fresh(t *testing.T, sectors int) *disk.Disk {
	t.Helper()
	d, e := disk.New(sectors)
	if e != api.OK {
		t.Fatal(e)
	}
	return d
}

func format(t *testing.T, d *disk.Disk, at, size int) {
	t.Helper()
	if e := wal.Format(d, at, size); e != api.OK {
		t.Fatalf("Format(%d, %d): %d", at, size, e)
	}
}

func open(t *testing.T, d *disk.Disk, at, size, groups int) *wal.Wal {
	t.Helper()
	w, e := wal.Open(d, at, size)
	if e != api.OK || w == nil {
		t.Fatalf("Open(%d, %d): %v, %d", at, size, w, e)
	}
	if w.Groups() != groups {
		t.Fatalf("Groups %d, want %d", w.Groups(), groups)
	}
	return w
}

func noLog(t *testing.T, d *disk.Disk, at, size int, want api.Errno) {
	t.Helper()
	before := image(d)
	steps := d.Steps()
	if w, e := wal.Open(d, at, size); w != nil || e != want {
		t.Errorf("Open(%d, %d): %v, %d; want %d", at, size, w, e, want)
	}
	if d.Steps() != steps || !slices.Equal(image(d), before) {
		t.Errorf("Open(%d, %d) changed the disk", at, size)
	}
}

func commit(t *testing.T, w *wal.Wal, l []api.Put, want api.Errno) {
	t.Helper()
	if e := w.Commit(l); e != want {
		t.Errorf("Commit of %d puts: %d, want %d", len(l), e, want)
	}
}

// puts writes so many sectors from one on, each full of one byte.
func puts(from, n int, c byte) []api.Put {
	var l []api.Put
	for i := range n {
		l = append(l, api.Put{Sector: from + i, Bytes: full(c)})
	}
	return l
}

// image is what can be read of a disk, a text a sector.
func image(d *disk.Disk) []string {
	var s []string
	for i := range d.Len() {
		b, _ := d.Read(i)
		s = append(s, string(b))
	}
	return s
}

// same compares a disk with an image, but for the sectors of a log.
func same(t *testing.T, d *disk.Disk, want []string, at, size int) {
	t.Helper()
	for i, got := range image(d) {
		if (i < at || i >= at+size) && got != want[i] {
			t.Fatalf("sector %d: %q, want %q", i, got, want[i])
		}
	}
}

// with is an image behind a group.
func with(s []string, l []api.Put) []string {
	s = slices.Clone(s)
	for _, p := range l {
		s[p.Sector] = string(p.Bytes)
	}
	return s
}

// dark turns a disk's power off.
func dark(d *disk.Disk) *disk.Disk {
	d.Fuse(0)
	d.Barrier()
	return d
}

func TestP2_1Room(t *testing.T) {
	for size := -40; size <= 9000; size++ {
		got := wal.Room(size)
		if size < 3 {
			if got != 0 {
				t.Errorf("Room(%d): %d", size, got)
			}
			continue
		}
		fits := func(n int) bool { return 1+(n+31)/32+n <= size }
		if got < 1 || !fits(got) || fits(got+1) {
			t.Errorf("Room(%d): %d", size, got)
		}
	}
	for size, want := range map[int]int{math.MinInt: 0, math.MaxInt: math.MaxInt - 1 - (math.MaxInt-1+32)/33} {
		if got := wal.Room(size); got != want {
			t.Errorf("Room(%d): %d, want %d", size, got, want)
		}
	}
}

// impossible are positions where a disk of 100 sectors can have no log.
func impossible() [][2]int {
	return [][2]int{{-1, 40}, {61, 40}, {100, 3}, {98, 3}, {0, 2}, {50, 2}, {0, 0}, {0, -1}, {0, 101}, {1, 100}, {-1, 101}, {math.MinInt, 40}, {math.MaxInt, 40}, {0, math.MaxInt}, {math.MaxInt, math.MaxInt}, {0, math.MinInt}, {math.MinInt, math.MinInt}, {-5, math.MaxInt}}
}

func possible() [][2]int { return [][2]int{{0, 3}, {0, 100}, {97, 3}, {60, 40}, {1, 99}, {30, 35}} }

func TestP2_2FormatWhereNoLogIsPossible(t *testing.T) {
	d := fresh(t, 100)
	for _, a := range impossible() {
		if e := wal.Format(d, a[0], a[1]); e != api.ErrArg {
			t.Errorf("Format(%d, %d): %d", a[0], a[1], e)
		}
		noLog(t, d, a[0], a[1], api.ErrArg)
	}
	if d.Steps() != 0 {
		t.Error(d.Steps())
	}
	if e := wal.Format(fresh(t, 2), 0, 2); e != api.ErrArg {
		t.Error(e)
	}
}

func TestP2_2Format(t *testing.T) {
	for _, a := range possible() {
		d := fresh(t, 100)
		for i := range d.Len() {
			d.Write(i, full(byte(i+1)))
		}
		before := image(d)
		format(t, d, a[0], a[1])
		if d.Waiting() != 0 {
			t.Error("pending writes are left")
		}
		for range 2 {
			same(t, d, before, a[0], a[1])
			open(t, d, a[0], a[1], 0)
			d.Boot(nil)
		}
	}
}

func TestP2_2FormatOverALog(t *testing.T) {
	d := fresh(t, 100)
	format(t, d, 0, 40)
	w := open(t, d, 0, 40, 0)
	commit(t, w, puts(50, 30, 1), api.OK)
	commit(t, w, puts(60, 30, 2), api.OK)
	before := image(d)
	for _, size := range []int{40, 20, 60, 40} {
		format(t, d, 0, size)
		d.Boot([]int{1})
		same(t, d, before, 0, size)
		open(t, d, 0, size, 0)
	}
}

// TestP2_2FormatForgetsAGroup: what was in progress when the power failed is not completed behind a new Format.
func TestP2_2FormatForgetsAGroup(t *testing.T) {
	for fuse := range 12 {
		d := fresh(t, 100)
		format(t, d, 0, 40)
		w := open(t, d, 0, 40, 0)
		d.Fuse(fuse)
		w.Commit(puts(50, 3, 1))
		d.Boot(nil)
		before := image(d)
		format(t, d, 0, 40)
		open(t, d, 0, 40, 0)
		same(t, d, before, 0, 40)
	}
}

func TestP2_2FormatWithoutPower(t *testing.T) {
	d := dark(fresh(t, 100))
	if e := wal.Format(d, 0, 40); e != api.ErrPower {
		t.Error(e)
	}
	if e := wal.Format(d, 0, 2); e != api.ErrArg {
		t.Error(e)
	}
	noLog(t, d, 0, 40, api.ErrPower)
	noLog(t, d, 0, 2, api.ErrArg)
}

func TestP2_3OpenFindsNoLog(t *testing.T) {
	d := fresh(t, 100)
	for _, a := range possible() {
		noLog(t, d, a[0], a[1], api.ErrCorrupt)
	}
	for c := range 256 {
		d.Write(10, full(byte(c)))
		noLog(t, d, 10, 40, api.ErrCorrupt)
	}
}

// TestP2_3OpenOfNumbers: a sector is no log because the numbers of one stand in it somewhere.
func TestP2_3OpenOfNumbers(t *testing.T) {
	for _, width := range []int{1, 2, 4, 8} {
		for from := 0; from+2*width <= api.SectorSize; from++ {
			d := fresh(t, 100)
			b := full(0)
			b[from], b[from+width] = 10, 40
			d.Write(10, b)
			noLog(t, d, 10, 40, api.ErrCorrupt)
		}
	}
}

func TestP2_3OpenOfAnotherSizeOrPlace(t *testing.T) {
	d := fresh(t, 100)
	format(t, d, 20, 40)
	for size := 3; size <= 80; size++ {
		if size != 40 {
			noLog(t, d, 20, size, api.ErrCorrupt)
		}
	}
	for at := range 61 {
		if at != 20 {
			noLog(t, d, at, 40, api.ErrCorrupt)
		}
	}
	w := open(t, d, 20, 40, 0)
	b, _ := d.Read(20)
	commit(t, w, []api.Put{{Sector: 60, Bytes: b}, {Sector: 0, Bytes: b}}, api.OK)
	noLog(t, d, 60, 40, api.ErrCorrupt)
	noLog(t, d, 0, 40, api.ErrCorrupt)
	format(t, d, 20, 41)
	noLog(t, d, 20, 40, api.ErrCorrupt)
	open(t, d, 20, 41, 0)
}

// TestP2_3OpenOfSpoiltHeads writes bytes into the sectors of a log, which is then the same one, or none.
func TestP2_3OpenOfSpoiltHeads(t *testing.T) {
	for fuse := range 10 {
		base := fresh(t, 100)
		format(t, base, 0, 40)
		w := open(t, base, 0, 40, 0)
		base.Fuse(fuse)
		w.Commit(puts(50, 2, 1))
		base.Boot([]int{1})
		for sector := range 5 {
			for at := range api.SectorSize {
				for _, c := range []byte{1, 128, 255} {
					d := base.Clone()
					b, _ := d.Read(sector)
					b[at] ^= c
					d.Write(sector, b)
					d.Barrier()
					if w, e := wal.Open(d, 0, 40); (w == nil) == (e == api.OK) || e != api.OK && e != api.ErrCorrupt {
						t.Fatalf("sector %d, byte %d: %v, %d", sector, at, w, e)
					}
				}
			}
		}
	}
}

// TestP2_3OpenCompletes lets the power fail at each step of the greatest group that fits: Open then takes few steps, and at some of these crashes it has the group to complete.
func TestP2_3OpenCompletes(t *testing.T) {
	for _, size := range []int{3, 34, 35, 36, 40, 70} {
		d := fresh(t, 200)
		format(t, d, 5, size)
		w := open(t, d, 5, size, 0)
		l := puts(100, wal.Room(size), 7)
		before := image(d)
		completed := false
		for fuse := 0; ; fuse++ {
			c := d.Clone()
			w = open(t, c, 5, size, 0)
			c.Fuse(fuse)
			if w.Commit(l) == api.OK {
				break
			}
			c.Boot(nil)
			steps := c.Steps()
			w, e := wal.Open(c, 5, size)
			if e != api.OK {
				t.Fatal(e)
			}
			if c.Steps()-steps > wal.Room(size)+10 {
				t.Errorf("Open took %d steps", c.Steps()-steps)
			}
			if w.Groups() == 1 {
				same(t, c, with(before, l), 5, size)
				completed = completed || c.Steps() > steps
			} else {
				same(t, c, before, 5, size)
			}
		}
		if !completed {
			t.Error("no group was completed by Open")
		}
	}
}

func TestP2_4Commit(t *testing.T) {
	d := fresh(t, 100)
	format(t, d, 20, 40)
	w := open(t, d, 20, 40, 0)
	want := image(d)
	for i, l := range [][]api.Put{
		nil,
		{},
		puts(0, 1, 1),
		puts(99, 1, 2),
		{{Sector: 60, Bytes: full(3)}, {Sector: 19, Bytes: full(4)}, {Sector: 61, Bytes: full(5)}},
		puts(60, 32, 6),
		puts(60, 33, 7),
		puts(60, 36, 8),
		nil,
		puts(60, wal.Room(40), 9),
		slices.Concat(puts(0, 20, 10), puts(84, 16, 11)),
	} {
		commit(t, w, l, api.OK)
		want = with(want, l)
		if w.Groups() != i+1 || d.Waiting() != 0 {
			t.Errorf("group %d: Groups %d, waiting %d", i, w.Groups(), d.Waiting())
		}
		same(t, d, want, 20, 40)
		c := d.Clone()
		c.Boot(nil)
		open(t, c, 20, 40, i+1)
		same(t, c, want, 20, 40)
	}
}

func TestP2_4CommitOfEachByte(t *testing.T) {
	d := fresh(t, 8192)
	format(t, d, 1, 620)
	w := open(t, d, 1, 620, 0)
	var l []api.Put
	for i := range 600 {
		b := full(byte(i))
		b[i%64], b[0] = byte(i>>8), byte(i*7)
		l = append(l, api.Put{Sector: 8191 - i*12, Bytes: b})
	}
	want := with(image(d), l)
	commit(t, w, l, api.OK)
	same(t, d, want, 1, 620)
}

func TestP2_4CommitOfWrongGroups(t *testing.T) {
	d := fresh(t, 100)
	format(t, d, 20, 40)
	w := open(t, d, 20, 40, 0)
	commit(t, w, puts(70, 2, 1), api.OK)
	want, steps := image(d), d.Steps()
	good := api.Put{Sector: 80, Bytes: full(1)}
	wrong := [][]api.Put{
		puts(60, wal.Room(40)+1, 1),
		slices.Concat(puts(0, 20, 1), puts(60, 40, 1)),
		{good, good},
		{good, {Sector: 81, Bytes: full(1)}, {Sector: 80, Bytes: full(2)}},
	}
	for _, i := range []int{math.MinInt, -1, 20, 21, 40, 59, 100, 101, math.MaxInt} {
		wrong = append(wrong, []api.Put{{Sector: i, Bytes: full(1)}}, []api.Put{good, {Sector: i, Bytes: full(1)}})
	}
	for _, n := range []int{0, 1, 3, 63, 65, 128} {
		wrong = append(wrong, []api.Put{{Sector: 80, Bytes: make([]byte, n, 128)}}, []api.Put{good, {Sector: 81, Bytes: make([]byte, n)}})
	}
	off := d.Clone()
	v := open(t, off, 20, 40, 1)
	dark(off)
	d.Fuse(0)
	for _, l := range wrong {
		commit(t, w, l, api.ErrGroup)
		commit(t, v, l, api.ErrGroup)
	}
	if w.Groups() != 1 || d.Steps() != steps || !d.On() {
		t.Error(w.Groups(), d.Steps(), d.On())
	}
	if !slices.Equal(image(d), want) {
		t.Error("a wrong group changed the disk")
	}
	commit(t, v, nil, api.ErrPower)
	commit(t, v, []api.Put{good}, api.ErrPower)
	commit(t, w, []api.Put{good}, api.ErrPower)
}

func TestP2_4CommitOnAZeroLog(t *testing.T) {
	w := new(wal.Wal)
	commit(t, w, nil, api.ErrGroup)
	commit(t, w, puts(3, 1, 1), api.ErrGroup)
	if w.Groups() != 0 {
		t.Error(w.Groups())
	}
}

func TestP2_4ArgumentIsNotKept(t *testing.T) {
	d := fresh(t, 100)
	format(t, d, 0, 40)
	w := open(t, d, 0, 40, 0)
	room := append(puts(50, 3, 1), api.Put{Sector: 77})
	room[0].Bytes = append(full(1), 42)[:api.SectorSize]
	commit(t, w, room[:3], api.OK)
	for i, p := range room[:3] {
		if p.Sector != 50+i || !bytes.Equal(p.Bytes, full(1)) {
			t.Error("the argument was changed")
		}
		p.Bytes[5] = 9
	}
	if room[3].Sector != 77 || room[3].Bytes != nil || room[0].Bytes[:65][64] != 42 {
		t.Error("memory behind the argument was changed")
	}
	room[0].Sector = 60
	want := with(image(fresh(t, 100)), puts(50, 3, 1))
	same(t, d, want, 0, 40)
	d.Boot(nil)
	open(t, d, 0, 40, 1)
	same(t, d, want, 0, 40)
}

// TestP2_4PendingWrites: writes that were pending ahead of a Commit lie below those of the group.
func TestP2_4PendingWrites(t *testing.T) {
	d := fresh(t, 100)
	format(t, d, 0, 40)
	w := open(t, d, 0, 40, 0)
	d.Write(50, full(8))
	d.Write(60, full(9))
	commit(t, w, puts(50, 2, 1), api.OK)
	d.Boot([]int{1})
	open(t, d, 0, 40, 1)
	same(t, d, with(with(image(fresh(t, 100)), puts(50, 2, 1)), puts(60, 1, 9)), 0, 40)
}

func TestP2_5Groups(t *testing.T) {
	d := fresh(t, 100)
	format(t, d, 50, 3)
	w := open(t, d, 50, 3, 0)
	for i := range 700 {
		if i%3 == 0 {
			w = open(t, d, 50, 3, i)
		}
		commit(t, w, puts(i%50, i%2, byte(i)), api.OK)
		commit(t, w, puts(50, 1, 1), api.ErrGroup)
		if w.Groups() != i+1 {
			t.Fatalf("Groups %d, want %d", w.Groups(), i+1)
		}
	}
	d.Boot(nil)
	open(t, d, 50, 3, 700)
	format(t, d, 50, 3)
	open(t, d, 50, 3, 0)
}

func TestTwoLogs(t *testing.T) {
	d := fresh(t, 100)
	format(t, d, 0, 10)
	format(t, d, 10, 10)
	a, b := open(t, d, 0, 10, 0), open(t, d, 10, 10, 0)
	commit(t, a, puts(30, 8, 1), api.OK)
	commit(t, b, puts(34, 8, 2), api.OK)
	commit(t, a, puts(40, 8, 3), api.OK)
	open(t, d, 0, 10, 2)
	open(t, d, 10, 10, 1)
	want := with(image(fresh(t, 100)), puts(30, 4, 1))
	same(t, d, with(with(want, puts(34, 6, 2)), puts(40, 8, 3)), 0, 20)
}

func TestExamples(t *testing.T) {
	for size, want := range map[int]int{2: 0, 3: 1, 35: 32, 620: 600} {
		if got := wal.Room(size); got != want {
			t.Errorf("Room(%d): %d, want %d", size, got, want)
		}
	}
	d := fresh(t, 100)
	noLog(t, d, 0, 8, api.ErrCorrupt)
	format(t, d, 0, 8)
	w := open(t, d, 0, 8, 0)
	commit(t, w, []api.Put{{Sector: 20, Bytes: full(1)}, {Sector: 21, Bytes: full(2)}}, api.OK)
	if b, _ := d.Read(21); w.Groups() != 1 || !bytes.Equal(b, full(2)) {
		t.Error(w.Groups(), b)
	}
	commit(t, w, []api.Put{{Sector: 20, Bytes: full(1)}, {Sector: 20, Bytes: full(2)}}, api.ErrGroup)
	commit(t, w, puts(5, 1, 1), api.ErrGroup)
	commit(t, w, []api.Put{{Sector: 20, Bytes: make([]byte, 3)}}, api.ErrGroup)
	d.Fuse(0)
	commit(t, w, puts(20, 1, 3), api.ErrPower)
	d.Boot(nil)
	open(t, d, 0, 8, 1)
	if b, _ := d.Read(20); !bytes.Equal(b, full(1)) {
		t.Error(b)
	}
}
