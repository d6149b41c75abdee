package cache_test

import (
	"bytes"
	"math"
	"slices"
	"testing"

	"estafette/api"
	"estafette/cache"
	"estafette/disk"
	"estafette/wal"
)

const (
	sectors = 100
	logSize = 40 // the log is in the sectors 0 to 39
)

// full is a sector of one byte.
func full(c byte) []byte { return bytes.Repeat([]byte{c}, api.SectorSize) }

// logged is a disk whose sectors behind the log are full of their own number.
func logged(t *testing.T) (*disk.Disk, *wal.Wal) {
	t.Helper()
	d, e := disk.New(sectors)
	if e != api.OK {
		t.Fatal(e)
	}
	for i := range sectors {
		d.Write(i, full(byte(i)))
	}
	if e := wal.Format(d, 0, logSize); e != api.OK {
		t.Fatal(e)
	}
	return d, open(t, d, 0)
}

func open(t *testing.T, d *disk.Disk, groups int) *wal.Wal {
	t.Helper()
	w, e := wal.Open(d, 0, logSize)
	if e != api.OK || w.Groups() != groups {
		t.Fatalf("wal.Open: %v, %d; want %d groups", w, e, groups)
	}
	return w
}

func over(t *testing.T, d *disk.Disk, w *wal.Wal, most int) *cache.Cache {
	t.Helper()
	c, e := cache.New(d, w, most)
	if e != api.OK || c == nil {
		t.Fatalf("New(%d): %v, %d", most, c, e)
	}
	return c
}

func ground(t *testing.T, most int) (*disk.Disk, *cache.Cache) {
	t.Helper()
	d, w := logged(t)
	return d, over(t, d, w, most)
}

func read(t *testing.T, c *cache.Cache, i int, want byte) {
	t.Helper()
	if b, e := c.Read(i); e != api.OK || !bytes.Equal(b, full(want)) {
		t.Errorf("Read(%d): %v, %d; want all %d", i, b, e, want)
	}
}

// readOwn reads sectors that are full of their own number.
func readOwn(t *testing.T, c *cache.Cache, l ...int) {
	t.Helper()
	for _, i := range l {
		read(t, c, i, byte(i))
	}
}

func readFails(t *testing.T, c *cache.Cache, i int, want api.Errno) {
	t.Helper()
	if b, e := c.Read(i); b != nil || e != want {
		t.Errorf("Read(%d): %v, %d; want %d", i, b, e, want)
	}
}

func write(t *testing.T, c *cache.Cache, fill byte, l ...int) {
	t.Helper()
	for _, i := range l {
		result(t, "Write", c.Write(i, full(fill)), api.OK)
	}
}

func result(t *testing.T, call string, got, want api.Errno) {
	t.Helper()
	if got != want {
		t.Errorf("%s: %d, want %d", call, got, want)
	}
}

func begin(t *testing.T, c *cache.Cache) {
	t.Helper()
	result(t, "Begin", c.Begin(), api.OK)
}

func held(t *testing.T, c *cache.Cache, want ...int) {
	t.Helper()
	if got := c.Held(); !slices.Equal(got, want) {
		t.Errorf("Held %v, want %v", got, want)
	}
}

func counts(t *testing.T, c *cache.Cache, pinned, misses int) {
	t.Helper()
	if c.Pinned() != pinned || c.Misses() != misses {
		t.Errorf("Pinned %d, Misses %d; want %d, %d", c.Pinned(), c.Misses(), pinned, misses)
	}
}

// closed tells that no transaction is open, and leaves it so.
func closed(t *testing.T, c *cache.Cache) {
	t.Helper()
	result(t, "Write while none is open", c.Write(60, full(1)), api.ErrOpen)
	result(t, "Commit while none is open", c.Commit(), api.ErrOpen)
	result(t, "Abort while none is open", c.Abort(), api.ErrOpen)
}

// image is what can be read of a disk, a text a sector.
func image(d *disk.Disk) []string {
	var s []string
	for i := range d.Len() {
		b, _ := d.Read(i)
		s = append(s, string(b))
	}
	return s
}

// untouched tells whether a disk is as it was after so many steps.
func untouched(t *testing.T, d *disk.Disk, steps int, was []string) {
	t.Helper()
	if d.Steps() != steps || d.On() && !slices.Equal(image(d), was) {
		t.Errorf("%d steps, then %d; or other bytes", steps, d.Steps())
	}
}

// dark turns a disk's power off.
func dark(d *disk.Disk) {
	d.Fuse(0)
	d.Barrier()
}

// TestExamples is the chapter's table.
func TestExamples(t *testing.T) {
	_, c := ground(t, 2)
	readOwn(t, c, 50, 51, 50, 52)
	held(t, c, 50, 52)
	counts(t, c, 0, 3)
	result(t, "Write", c.Write(60, full(1)), api.ErrOpen)
	result(t, "Begin", c.Begin(), api.OK)
	result(t, "Begin", c.Begin(), api.ErrOpen)
	write(t, c, 1, 60, 61, 62)
	held(t, c, 50, 52, 60, 61, 62)
	counts(t, c, 3, 3)
	result(t, "Commit", c.Commit(), api.OK)
	held(t, c, 61, 62)
	counts(t, c, 0, 3)
}

func TestP3_1NewRefuses(t *testing.T) {
	d, w := logged(t)
	for _, most := range []int{0, -1, math.MinInt} {
		if c, e := cache.New(d, w, most); c != nil || e != api.ErrArg {
			t.Errorf("New(%d): %v, %d", most, c, e)
		}
		if c, e := cache.New(nil, nil, most); c != nil || e != api.ErrArg {
			t.Errorf("New(nil, nil, %d): %v, %d", most, c, e)
		}
	}
}

func TestP3_1New(t *testing.T) {
	d, w := logged(t)
	steps, was := d.Steps(), image(d)
	for _, most := range []int{1, 2, sectors, math.MaxInt} {
		c := over(t, d, w, most)
		held(t, c)
		counts(t, c, 0, 0)
		closed(t, c)
		begin(t, c)
	}
	untouched(t, d, steps, was)
}

func TestP3_2Read(t *testing.T) {
	d, c := ground(t, 10)
	steps, was := d.Steps(), image(d)
	readOwn(t, c, 40, 99, 40, 99, 70)
	counts(t, c, 0, 3)
	b, e := c.Read(0)
	if e != api.OK || string(b) != was[0] {
		t.Error("a sector of the log", b, e)
	}
	held(t, c, 40, 99, 70, 0)
	untouched(t, d, steps, was)
}

func TestP3_2ReadKeepsEachByte(t *testing.T) {
	d, c := ground(t, 2)
	b := make([]byte, api.SectorSize)
	for i := range b {
		b[i] = byte(255 - i)
	}
	d.Write(50, b)
	for range 2 {
		if got, e := c.Read(50); e != api.OK || !bytes.Equal(got, b) {
			t.Error(got, e)
		}
	}
	slices.Reverse(b)
	begin(t, c)
	result(t, "Write", c.Write(50, b), api.OK)
	if got, e := c.Read(50); e != api.OK || !bytes.Equal(got, b) {
		t.Error(got, e)
	}
	result(t, "Commit", c.Commit(), api.OK)
	if got, _ := d.Read(50); !bytes.Equal(got, b) {
		t.Error(got)
	}
}

func TestP3_2ReadNoSuchSector(t *testing.T) {
	_, c := ground(t, 2)
	readOwn(t, c, 50, 51)
	for _, i := range []int{-1, sectors, math.MinInt, math.MaxInt} {
		readFails(t, c, i, api.ErrPlace)
	}
	held(t, c, 50, 51)
	counts(t, c, 0, 2)
}

// TestP3_2ReadAsksTheDiskOnce: what is cached comes from the cache, whatever the disk has, and whether or not it has power.
func TestP3_2ReadAsksTheDiskOnce(t *testing.T) {
	d, c := ground(t, 2)
	readOwn(t, c, 50, 51)
	d.Write(50, full(200))
	read(t, c, 50, 50)
	dark(d)
	read(t, c, 51, 51)
	readFails(t, c, 52, api.ErrPower)
	readFails(t, c, -1, api.ErrPower)
	held(t, c, 50, 51)
	counts(t, c, 0, 2)
	d.Boot([]int{1})
	readOwn(t, c, 52)
	read(t, c, 50, 200)
	counts(t, c, 0, 4)
}

func TestP3_2MissesCountAgainAfterEviction(t *testing.T) {
	_, c := ground(t, 1)
	readOwn(t, c, 50, 51, 50, 50, 51)
	held(t, c, 51)
	counts(t, c, 0, 4)
}

func TestP3_2ReadBelongsToTheCaller(t *testing.T) {
	_, c := ground(t, 3)
	begin(t, c)
	write(t, c, 7, 60)
	for range 2 {
		for _, i := range []int{50, 60} {
			b, _ := c.Read(i)
			b[0] = 99
			_ = append(b[:1], 98)
		}
	}
	read(t, c, 50, 50)
	read(t, c, 60, 7)
}

func TestP3_2Write(t *testing.T) {
	d, c := ground(t, 3)
	readOwn(t, c, 50)
	steps, was := d.Steps(), image(d)
	begin(t, c)
	write(t, c, 7, 60, 50, 99, 40)
	counts(t, c, 4, 1)
	held(t, c, 60, 50, 99, 40)
	for _, i := range []int{60, 50, 99, 40} {
		read(t, c, i, 7)
	}
	write(t, c, 8, 60)
	read(t, c, 60, 8)
	counts(t, c, 4, 1)
	untouched(t, d, steps, was)
	if d.Waiting() != 0 {
		t.Error("something was written")
	}
}

func TestP3_2WriteRefuses(t *testing.T) {
	d, c := ground(t, 3)
	readOwn(t, c, 50, 51)
	wrong := [][]byte{nil, {}, full(1)[:63], append(full(1), 1), make([]byte, 63, 64)}
	for _, i := range []int{60, -1, sectors} {
		result(t, "Write while none is open", c.Write(i, full(1)), api.ErrOpen)
		result(t, "Write while none is open", c.Write(i, nil), api.ErrOpen)
	}
	begin(t, c)
	write(t, c, 7, 60)
	steps, was := d.Steps(), image(d)
	for _, i := range []int{-1, sectors, math.MinInt, math.MaxInt} {
		result(t, "Write", c.Write(i, full(1)), api.ErrPlace)
		result(t, "Write", c.Write(i, nil), api.ErrPlace)
	}
	for _, b := range wrong {
		for _, i := range []int{50, 60, 61} {
			result(t, "Write", c.Write(i, b), api.ErrBytes)
		}
	}
	held(t, c, 50, 51, 60)
	counts(t, c, 1, 2)
	untouched(t, d, steps, was)
	read(t, c, 60, 7)
	readOwn(t, c, 50)
}

// TestP3_2WriteWithoutPower: Begin, Write and Abort do no step, and so need no power.
func TestP3_2WriteWithoutPower(t *testing.T) {
	d, c := ground(t, 3)
	dark(d)
	begin(t, c)
	write(t, c, 7, 60)
	result(t, "Write", c.Write(sectors, full(7)), api.ErrPlace)
	read(t, c, 60, 7)
	result(t, "Abort", c.Abort(), api.OK)
	readFails(t, c, 60, api.ErrPower)
}

func TestP3_2WriteKeepsNoArgument(t *testing.T) {
	d, c := ground(t, 3)
	begin(t, c)
	b := append(make([]byte, 0, 100), full(7)...)
	b[:65][64] = 42
	result(t, "Write", c.Write(60, b), api.OK)
	if !bytes.Equal(b, full(7)) || b[:65][64] != 42 {
		t.Error("the argument was changed")
	}
	b[0] = 9
	read(t, c, 60, 7)
	result(t, "Commit", c.Commit(), api.OK)
	if got, _ := d.Read(60); !bytes.Equal(got, full(7)) {
		t.Error(got)
	}
}

func TestP3_3BeginAndEnd(t *testing.T) {
	d, c := ground(t, 3)
	closed(t, c)
	for _, end := range []func() api.Errno{c.Commit, c.Abort, c.Abort, c.Commit} {
		for _, l := range [][]int{nil, {60, 61}} {
			steps := d.Steps()
			begin(t, c)
			result(t, "Begin while one is open", c.Begin(), api.ErrOpen)
			write(t, c, 7, l...)
			result(t, "Begin while one is open", c.Begin(), api.ErrOpen)
			counts(t, c, len(l), 0)
			if d.Steps() != steps {
				t.Error("Begin or Write did a step")
			}
			result(t, "the end", end(), api.OK)
			counts(t, c, 0, 0)
			steps, was := d.Steps(), image(d)
			closed(t, c)
			untouched(t, d, steps, was)
		}
	}
}

// TestP3_3CommitIsOneGroup holds a Commit against the log's own, on an equal disk: the same sectors of it and of the log, and as many steps.
func TestP3_3CommitIsOneGroup(t *testing.T) {
	for _, l := range [][]int{nil, {60}, {60, 61, 62}, {62, 61, 60}, {99, 40, 70, 41, 98}, {70, 60, 70, 80, 60}} {
		d, w := logged(t)
		twin := d.Clone()
		c := over(t, d, w, 2)
		readOwn(t, c, 50, 60)
		begin(t, c)
		last := map[int]byte{}
		for k, i := range l {
			write(t, c, byte(200+k), i)
			last[i] = byte(200 + k)
		}
		readOwn(t, c, 50)
		result(t, "Commit", c.Commit(), api.OK)
		var group []api.Put
		for i := range sectors {
			if fill, is := last[i]; is {
				group = append(group, api.Put{Sector: i, Bytes: full(fill)})
			}
		}
		result(t, "wal.Commit", open(t, twin, 0).Commit(group), api.OK)
		if w.Groups() != 1 || d.Waiting() != 0 {
			t.Errorf("%d groups, %d pending writes", w.Groups(), d.Waiting())
		}
		untouched(t, d, twin.Steps(), image(twin))
	}
}

func TestP3_3CommitOfAsManyAsFit(t *testing.T) {
	for n := wal.Room(logSize) - 1; n <= wal.Room(logSize); n++ {
		d, c := ground(t, 3)
		begin(t, c)
		for k := range n {
			write(t, c, 7, 50+k)
		}
		result(t, "Commit", c.Commit(), api.OK)
		held(t, c, 50+n-3, 50+n-2, 50+n-1)
		counts(t, c, 0, 0)
		for k := range n {
			if b, _ := d.Read(50 + k); !bytes.Equal(b, full(7)) {
				t.Error(50+k, b)
			}
		}
	}
}

// TestP3_3CommitRefused: a group that the log refuses leaves everything as before, the transaction open.
func TestP3_3CommitRefused(t *testing.T) {
	tooMany := []int{}
	for k := range wal.Room(logSize) + 1 {
		tooMany = append(tooMany, 50+k)
	}
	for _, l := range [][]int{tooMany, {60, 0}, {logSize - 1, 61}} {
		d, w := logged(t)
		c := over(t, d, w, 2)
		readOwn(t, c, 45, 46)
		begin(t, c)
		write(t, c, 7, l...)
		steps, was := d.Steps(), image(d)
		for range 2 {
			result(t, "Commit", c.Commit(), api.ErrGroup)
			held(t, c, append([]int{45, 46}, l...)...)
			counts(t, c, len(l), 2)
			result(t, "Begin", c.Begin(), api.ErrOpen)
		}
		for _, i := range l {
			read(t, c, i, 7)
		}
		held(t, c, l...)
		write(t, c, 8, l[0])
		read(t, c, l[0], 8)
		result(t, "Abort", c.Abort(), api.OK)
		held(t, c)
		untouched(t, d, steps, was)
		if w.Groups() != 0 {
			t.Error(w.Groups())
		}
		begin(t, c)
		write(t, c, 9, 60)
		result(t, "Commit", c.Commit(), api.OK)
	}
}

func TestP3_3CommitWithoutPower(t *testing.T) {
	d, c := ground(t, 2)
	readOwn(t, c, 50, 51)
	begin(t, c)
	dark(d)
	result(t, "Commit of nothing", c.Commit(), api.ErrPower)
	write(t, c, 7, 60)
	result(t, "Commit", c.Commit(), api.ErrPower)
	held(t, c, 50, 51, 60)
	counts(t, c, 1, 2)
	result(t, "Begin", c.Begin(), api.ErrOpen)
}

func TestP3_3Abort(t *testing.T) {
	d, w := logged(t)
	c := over(t, d, w, 4)
	readOwn(t, c, 50, 51, 52)
	steps, was := d.Steps(), image(d)
	begin(t, c)
	write(t, c, 7, 51, 60, 61)
	readOwn(t, c, 50)
	result(t, "Abort", c.Abort(), api.OK)
	held(t, c, 50)
	counts(t, c, 0, 3)
	readOwn(t, c, 51, 60, 61)
	held(t, c, 50, 51, 60, 61)
	counts(t, c, 0, 6)
	untouched(t, d, steps, was)
	begin(t, c)
	result(t, "Commit", c.Commit(), api.OK)
	readOwn(t, c, 51, 60, 61)
	if w.Groups() != 1 {
		t.Error(w.Groups())
	}
}

// TestP3_3AbortForgetsOnlyItsOwn: what an earlier transaction committed is not undone.
func TestP3_3AbortForgetsOnlyItsOwn(t *testing.T) {
	_, c := ground(t, 4)
	begin(t, c)
	write(t, c, 7, 60, 61)
	result(t, "Commit", c.Commit(), api.OK)
	begin(t, c)
	write(t, c, 8, 61, 62)
	result(t, "Abort", c.Abort(), api.OK)
	held(t, c, 60)
	read(t, c, 60, 7)
	read(t, c, 61, 7)
	readOwn(t, c, 62)
}

func TestP3_4Order(t *testing.T) {
	_, c := ground(t, 4)
	readOwn(t, c, 50, 51, 52, 53)
	held(t, c, 50, 51, 52, 53)
	readOwn(t, c, 51, 50, 50)
	held(t, c, 52, 53, 51, 50)
	begin(t, c)
	write(t, c, 53, 53)
	held(t, c, 52, 51, 50, 53)
	readOwn(t, c, 51)
	held(t, c, 52, 50, 53, 51)
	write(t, c, 53, 53)
	held(t, c, 52, 50, 51, 53)
	result(t, "Commit", c.Commit(), api.OK)
	held(t, c, 52, 50, 51, 53)
	readOwn(t, c, 54)
	held(t, c, 50, 51, 53, 54)
}

func TestP3_4HeldBelongsToTheCaller(t *testing.T) {
	_, c := ground(t, 4)
	readOwn(t, c, 50, 51, 52)
	l := c.Held()
	l[0] = 99
	_ = append(l[:1], 98, 97)
	held(t, c, 50, 51, 52)
	readOwn(t, c, 51)
	if !slices.Equal(l[:1], []int{99}) {
		t.Error(l)
	}
	held(t, c, 50, 52, 51)
}

// TestP3_4PinnedStay: a Read evicts, found in the cache or not, but nothing that is pinned; so what it has read may be what goes.
func TestP3_4PinnedStay(t *testing.T) {
	_, c := ground(t, 2)
	readOwn(t, c, 50, 51)
	begin(t, c)
	write(t, c, 7, 60)
	held(t, c, 50, 51, 60)
	readOwn(t, c, 51)
	held(t, c, 60, 51)
	readOwn(t, c, 52)
	held(t, c, 60, 52)
	write(t, c, 7, 61)
	held(t, c, 60, 52, 61)
	read(t, c, 60, 7)
	held(t, c, 61, 60)
	readOwn(t, c, 53)
	held(t, c, 61, 60)
	counts(t, c, 2, 4)
	write(t, c, 7, 62)
	readOwn(t, c, 53, 53)
	held(t, c, 61, 60, 62)
	counts(t, c, 3, 6)
	read(t, c, 61, 7)
	held(t, c, 60, 62, 61)
	result(t, "Commit", c.Commit(), api.OK)
	held(t, c, 62, 61)
	counts(t, c, 0, 6)
}

// TestP3_4OnlyReadAndCommitEvict: Write, Begin, a Commit that fails and a Read that fails leave more than most.
func TestP3_4OnlyReadAndCommitEvict(t *testing.T) {
	_, c := ground(t, 1)
	readOwn(t, c, 50)
	begin(t, c)
	write(t, c, 7, 60, 0)
	result(t, "Begin", c.Begin(), api.ErrOpen)
	result(t, "Commit", c.Commit(), api.ErrGroup)
	readFails(t, c, sectors, api.ErrPlace)
	result(t, "Write", c.Write(sectors, full(1)), api.ErrPlace)
	held(t, c, 50, 60, 0)
	result(t, "Abort", c.Abort(), api.OK)
	held(t, c, 50)
}

func TestP3_4CommitEvictsTheLeastRecent(t *testing.T) {
	_, c := ground(t, 3)
	readOwn(t, c, 50, 51, 52)
	begin(t, c)
	write(t, c, 60, 60)
	write(t, c, 51, 51)
	write(t, c, 61, 61)
	held(t, c, 50, 52, 60, 51, 61)
	result(t, "Commit", c.Commit(), api.OK)
	held(t, c, 60, 51, 61)
	misses := c.Misses()
	readOwn(t, c, 60, 51, 61)
	counts(t, c, 0, misses)
}

func TestP3_5WhatIsRead(t *testing.T) {
	d, c := ground(t, 1)
	begin(t, c)
	write(t, c, 1, 60, 61)
	read(t, c, 60, 1)
	result(t, "Commit", c.Commit(), api.OK)
	begin(t, c)
	write(t, c, 2, 60)
	read(t, c, 60, 2)
	read(t, c, 61, 1)
	readOwn(t, c, 62)
	result(t, "Abort", c.Abort(), api.OK)
	read(t, c, 60, 1)
	begin(t, c)
	write(t, c, 3, 60)
	result(t, "Commit", c.Commit(), api.OK)
	readOwn(t, c, 50)
	read(t, c, 60, 3)
	read(t, c, 61, 1)
	d.Boot(nil)
	again := over(t, d, open(t, d, 2), 5)
	read(t, again, 60, 3)
	read(t, again, 61, 1)
	readOwn(t, again, 62, 50)
}

func TestP3_6AbortLeavesAll(t *testing.T) {
	d, w := logged(t)
	c := over(t, d, w, 2)
	readOwn(t, c, 50, 51)
	steps, was := d.Steps(), image(d)
	for fill := range byte(3) {
		begin(t, c)
		for i := range sectors {
			write(t, c, fill, i)
		}
		result(t, "Abort", c.Abort(), api.OK)
		held(t, c)
		for i := logSize; i < sectors; i++ {
			readOwn(t, c, i)
		}
		held(t, c, sectors-2, sectors-1)
		untouched(t, d, steps, was)
	}
	if w.Groups() != 0 {
		t.Error(w.Groups())
	}
	d.Boot([]int{1})
	if !slices.Equal(image(d), was) {
		t.Error("something was pending")
	}
}

// TestNotMade: a Cache that New did not return refuses, and does not panic.
func TestNotMade(t *testing.T) {
	var c cache.Cache
	for range 2 {
		readFails(t, &c, 0, api.ErrPlace)
		result(t, "Begin", c.Begin(), api.ErrOpen)
		closed(t, &c)
		held(t, &c)
		counts(t, &c, 0, 0)
	}
}
