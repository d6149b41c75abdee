package disk_test

import (
	"bytes"
	"math"
	"slices"
	"testing"

	"estafette/api"
	"estafette/disk"
)

// full is a sector of one byte.
func full(c byte) []byte { return bytes.Repeat([]byte{c}, api.SectorSize) }

func fresh(t *testing.T, sectors int) *disk.Disk {
	t.Helper()
	d, e := disk.New(sectors)
	if e != api.OK || d == nil {
		t.Fatalf("New(%d): %v, %d", sectors, d, e)
	}
	return d
}

func put(t *testing.T, d *disk.Disk, i int, c byte, want api.Errno) {
	t.Helper()
	if e := d.Write(i, full(c)); e != want {
		t.Errorf("Write(%d, %d..): %d, want %d", i, c, e, want)
	}
}

func barrier(t *testing.T, d *disk.Disk, want api.Errno) {
	t.Helper()
	if e := d.Barrier(); e != want {
		t.Errorf("Barrier: %d, want %d", e, want)
	}
}

// holds compares the sectors from 0 on, each of them full of one byte.
func holds(t *testing.T, d *disk.Disk, want ...byte) {
	t.Helper()
	for i, c := range want {
		if b, e := d.Read(i); e != api.OK || !bytes.Equal(b, full(c)) {
			t.Errorf("Read(%d): %v, %d; want all %d", i, b, e, c)
		}
	}
}

func state(t *testing.T, d *disk.Disk, on bool, steps, waiting int) {
	t.Helper()
	if d.On() != on || d.Steps() != steps || d.Waiting() != waiting {
		t.Errorf("on %v, steps %d, waiting %d; want %v, %d, %d", d.On(), d.Steps(), d.Waiting(), on, steps, waiting)
	}
}

// dark is a disk of 4 sectors whose power went off at its first step.
func dark(t *testing.T) *disk.Disk {
	t.Helper()
	d := fresh(t, 4)
	d.Fuse(0)
	put(t, d, 0, 1, api.ErrPower)
	return d
}

func TestP1_1New(t *testing.T) {
	for _, n := range []int{math.MinInt, -1, 0, 8193, math.MaxInt} {
		if d, e := disk.New(n); d != nil || e != api.ErrArg {
			t.Errorf("New(%d): %v, %d", n, d, e)
		}
	}
	for _, n := range []int{1, 2, 1024, 8192} {
		d := fresh(t, n)
		if d.Len() != n {
			t.Errorf("New(%d): Len %d", n, d.Len())
		}
		state(t, d, true, 0, 0)
		holds(t, d, make([]byte, n)...)
		put(t, d, n-1, 1, api.OK)
		put(t, d, n, 1, api.ErrPlace)
	}
}

func TestP1_1NewHasNoFuse(t *testing.T) {
	d := fresh(t, 1)
	for range 2000 {
		put(t, d, 0, 1, api.OK)
		barrier(t, d, api.OK)
	}
	state(t, d, true, 4000, 0)
}

func TestP1_1LenWhileOff(t *testing.T) {
	if n := dark(t).Len(); n != 4 {
		t.Error(n)
	}
}

func TestP1_2Read(t *testing.T) {
	d := fresh(t, 4)
	for _, i := range []int{math.MinInt, -1, 4, math.MaxInt} {
		if b, e := d.Read(i); b != nil || e != api.ErrPlace {
			t.Errorf("Read(%d): %v, %d", i, b, e)
		}
	}
	put(t, d, 1, 5, api.OK)
	put(t, d, 1, 6, api.OK)
	holds(t, d, 0, 6, 0, 0)
	barrier(t, d, api.OK)
	holds(t, d, 0, 6, 0, 0)
	state(t, d, true, 3, 0)
	for _, i := range []int{-1, 0, 9} {
		if b, e := dark(t).Read(i); b != nil || e != api.ErrPower {
			t.Errorf("Read(%d) while off: %v, %d", i, b, e)
		}
	}
}

func TestP1_2ReadKeepsEachByte(t *testing.T) {
	d := fresh(t, 2)
	b := make([]byte, api.SectorSize)
	for i := range b {
		b[i] = byte(255 - i)
	}
	d.Write(1, b)
	if got, e := d.Read(1); e != api.OK || !bytes.Equal(got, b) {
		t.Error(got, e)
	}
}

func TestP1_2ReadBelongsToTheCaller(t *testing.T) {
	d := fresh(t, 2)
	put(t, d, 0, 3, api.OK)
	for i := range 2 {
		b, _ := d.Read(i)
		b[0] = 99
		_ = append(b[:1], 98)
	}
	holds(t, d, 3, 0)
	d.Boot([]int{1})
	holds(t, d, 3, 0)
}

func TestP1_3Steps(t *testing.T) {
	d := fresh(t, 4)
	put(t, d, 0, 1, api.OK)
	state(t, d, true, 1, 1)
	put(t, d, 0, 2, api.OK)
	state(t, d, true, 2, 2)
	barrier(t, d, api.OK)
	state(t, d, true, 3, 0)
	barrier(t, d, api.OK)
	state(t, d, true, 4, 0)
	d.Read(0)
	d.Fuse(3)
	state(t, d, true, 4, 0)
}

func TestP1_3WrongWritesAreNoSteps(t *testing.T) {
	d := fresh(t, 4)
	d.Fuse(0)
	for _, i := range []int{math.MinInt, -1, 4, math.MaxInt} {
		put(t, d, i, 1, api.ErrPlace)
		if e := d.Write(i, nil); e != api.ErrPlace {
			t.Errorf("Write(%d, nil): %d", i, e)
		}
	}
	for _, n := range []int{0, 1, 63, 65, 128} {
		if e := d.Write(0, make([]byte, n)); e != api.ErrBytes {
			t.Errorf("%d bytes: %d", n, e)
		}
	}
	if e := d.Write(0, make([]byte, 63, 64)); e != api.ErrBytes {
		t.Error(e)
	}
	state(t, d, true, 0, 0)
	put(t, d, 0, 1, api.ErrPower)
	state(t, d, false, 0, 0)
}

func TestP1_3PowerComesFirst(t *testing.T) {
	d := dark(t)
	put(t, d, -1, 1, api.ErrPower)
	if e := d.Write(0, nil); e != api.ErrPower {
		t.Error(e)
	}
	barrier(t, d, api.ErrPower)
	state(t, d, false, 0, 0)
}

func TestP1_3FuseBurnsDown(t *testing.T) {
	for n := range 6 {
		d := fresh(t, 4)
		d.Fuse(n)
		for k := range 4 {
			want := api.OK
			if k >= n {
				want = api.ErrPower
			}
			put(t, d, k, byte(k+1), want)
		}
		state(t, d, n >= 4, min(n, 4), min(n, 4))
	}
}

func TestP1_3BarrierBurnsTheFuse(t *testing.T) {
	d := fresh(t, 4)
	d.Fuse(3)
	put(t, d, 0, 1, api.OK)
	barrier(t, d, api.OK)
	put(t, d, 1, 2, api.OK)
	barrier(t, d, api.ErrPower)
	state(t, d, false, 3, 1)
	d.Boot(nil)
	holds(t, d, 1, 0, 0, 0)
}

func TestP1_3ArgumentIsNotKept(t *testing.T) {
	d := fresh(t, 4)
	b := append(make([]byte, 0, 100), full(7)...)
	spare := b[:100]
	spare[64] = 42
	d.Write(2, b)
	if !bytes.Equal(b, full(7)) || spare[64] != 42 {
		t.Error("the argument was changed")
	}
	b[0] = 9
	holds(t, d, 0, 0, 7, 0)
	d.Boot([]int{1})
	holds(t, d, 0, 0, 7, 0)
}

func TestP1_4Fuse(t *testing.T) {
	d := fresh(t, 4)
	d.Fuse(0)
	if !d.On() {
		t.Error("setting a fuse alone turned the power off")
	}
	for _, n := range []int{-1, -2, math.MinInt} {
		d.Fuse(0)
		d.Fuse(n)
		put(t, d, 0, 1, api.OK)
	}
	d.Fuse(1)
	d.Fuse(3)
	put(t, d, 0, 1, api.OK)
	put(t, d, 0, 1, api.OK)
	d.Fuse(math.MaxInt)
	put(t, d, 0, 1, api.OK)
	d.Fuse(0)
	barrier(t, d, api.ErrPower)
	state(t, d, false, 6, 6)
}

func TestP1_4FuseWhileOff(t *testing.T) {
	for _, n := range []int{-1, 0, 1, 5} {
		d := dark(t)
		d.Fuse(n)
		put(t, d, 0, 1, api.ErrPower)
		state(t, d, false, 0, 0)
		d.Boot(nil)
		for range 8 {
			put(t, d, 0, 1, api.OK)
		}
		state(t, d, true, 8, 8)
	}
}

// pendings has the durable contents 9 9 0, and then the pending writes 0:1, 1:2, 0:3, 2:4, 1:5.
func pendings(t *testing.T) *disk.Disk {
	t.Helper()
	d := fresh(t, 3)
	put(t, d, 0, 9, api.OK)
	put(t, d, 1, 9, api.OK)
	barrier(t, d, api.OK)
	for k, i := range []int{0, 1, 0, 2, 1} {
		put(t, d, i, byte(k+1), api.OK)
	}
	return d
}

func TestP1_5Boot(t *testing.T) {
	for _, c := range []struct {
		keep []int
		want []byte
	}{
		{nil, []byte{9, 9, 0}},
		{[]int{}, []byte{9, 9, 0}},
		{[]int{0}, []byte{9, 9, 0}},
		{[]int{2, -4, math.MinInt}, []byte{9, 9, 0}},
		{[]int{1}, []byte{3, 5, 4}},
		{[]int{-1}, []byte{3, 5, 4}},
		{[]int{7, -7, math.MaxInt}, []byte{3, 5, 4}},
		{[]int{0, 1}, []byte{9, 2, 4}},
		{[]int{1, 0}, []byte{3, 5, 0}},
		{[]int{1, 0, 0}, []byte{1, 9, 4}},
		{[]int{1, 1, 0, 0, 0}, []byte{1, 2, 0}},
		{[]int{0, 0, 0, 0, 3}, []byte{9, 5, 0}},
		{[]int{0, 0, 1, 0, 0, 1, 1, 1}, []byte{3, 9, 0}},
	} {
		d, off := pendings(t), pendings(t)
		d.Fuse(0)
		off.Fuse(0)
		barrier(t, off, api.ErrPower)
		state(t, off, false, 8, 5)
		for _, x := range []*disk.Disk{d, off} {
			given := slices.Clone(c.keep)
			x.Boot(given)
			if !slices.Equal(given, c.keep) {
				t.Error("keep was changed")
			}
			state(t, x, true, 8, 0)
			holds(t, x, c.want...)
			x.Boot([]int{1})
			x.Boot(nil)
			holds(t, x, c.want...)
			put(t, x, 0, 77, api.OK)
			state(t, x, true, 9, 1)
			x.Boot(nil)
			holds(t, x, c.want...)
		}
	}
}

func TestP1_5BootCountsAnew(t *testing.T) {
	d := pendings(t)
	barrier(t, d, api.OK)
	put(t, d, 0, 20, api.OK)
	put(t, d, 1, 21, api.OK)
	d.Boot([]int{1, 0})
	holds(t, d, 20, 5, 4)
	put(t, d, 1, 30, api.OK)
	put(t, d, 2, 31, api.OK)
	d.Boot([]int{0, 1})
	holds(t, d, 20, 5, 31)
}

func TestP1_6Clone(t *testing.T) {
	d := pendings(t)
	c := d.Clone()
	if c.Len() != 3 {
		t.Error(c.Len())
	}
	state(t, c, true, 8, 5)
	put(t, c, 0, 50, api.OK)
	put(t, d, 1, 60, api.OK)
	holds(t, c, 50, 5, 4)
	holds(t, d, 3, 60, 4)
	state(t, c, true, 9, 6)
	barrier(t, c, api.OK)
	state(t, d, true, 9, 6)
	c.Boot(nil)
	holds(t, c, 50, 5, 4)
	holds(t, d, 3, 60, 4)
	d.Boot(nil)
	holds(t, d, 9, 9, 0)
	holds(t, c, 50, 5, 4)
}

func TestP1_6CloneKeepsPendingWritesApart(t *testing.T) {
	d := pendings(t)
	c, s := d.Clone(), d.Clone()
	put(t, d, 2, 70, api.OK)
	put(t, c, 2, 71, api.OK)
	d.Boot([]int{1})
	c.Boot([]int{1})
	s.Boot([]int{1})
	holds(t, d, 3, 5, 70)
	holds(t, c, 3, 5, 71)
	holds(t, s, 3, 5, 4)
}

func TestP1_6CloneTakesFuseAndPower(t *testing.T) {
	d := fresh(t, 2)
	d.Fuse(1)
	c := d.Clone()
	d.Fuse(-1)
	put(t, c, 0, 1, api.OK)
	put(t, c, 0, 2, api.ErrPower)
	off := c.Clone()
	state(t, off, false, 1, 1)
	off.Boot([]int{1})
	holds(t, off, 1, 0)
	state(t, c, false, 1, 1)
	put(t, d, 0, 1, api.OK)
	put(t, d, 0, 1, api.OK)
	state(t, d, true, 2, 2)
}

// TestP1_7BarriersLast lets the power fail ahead of each step of a script, with each choice of survivors: what came before the last barrier is there, and nothing of a sector is of two writes.
func TestP1_7BarriersLast(t *testing.T) {
	const steps = 12 // every fourth one is a barrier
	for fuse := range steps + 1 {
		for choice := range 1 << 3 {
			d := fresh(t, 3)
			d.Fuse(fuse)
			var sure, last [3]byte
			for k := range steps {
				if k%4 == 3 {
					if d.Barrier() == api.OK {
						sure = last
					}
				} else if d.Write(k%4, full(byte(k+1))) == api.OK {
					last[k%4] = byte(k + 1)
				}
			}
			d.Boot([]int{choice & 1, choice >> 1 & 1, choice >> 2 & 1})
			want := sure
			for i := range want {
				if choice>>i&1 == 1 {
					want[i] = last[i]
				}
			}
			holds(t, d, want[:]...)
		}
	}
}

func TestExamples(t *testing.T) {
	for _, n := range []int{0, 8193} {
		if _, e := disk.New(n); e != api.ErrArg {
			t.Error(n, e)
		}
	}
	d := fresh(t, 4)
	put(t, d, 1, 'a', api.OK)
	barrier(t, d, api.OK)
	put(t, d, 1, 'b', api.OK)
	put(t, d, 2, 'c', api.OK)
	state(t, d, true, 4, 2)
	d.Boot([]int{0, 1})
	holds(t, d, 0, 'a', 'c', 0)

	d = fresh(t, 4)
	d.Fuse(1)
	put(t, d, 0, 'a', api.OK)
	barrier(t, d, api.ErrPower)
	state(t, d, false, 1, 1)
	d.Boot(nil)
	holds(t, d, 0)
}
