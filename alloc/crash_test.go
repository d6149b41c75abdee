package alloc_test

import (
	"bytes"
	"slices"
	"testing"

	"estafette/alloc"
	"estafette/api"
	"estafette/disk"
)

// state is all that a space tells.
type state struct {
	groups, blocks, free int
	used                 map[int]string
	inodes               []string
}

func stateOf(s *alloc.Space, sectors int) state {
	m := state{groups: s.Groups(), blocks: s.Blocks(), free: s.Inodes(), used: map[int]string{}}
	for n := alloc.First(sectors); n < sectors; n++ {
		if b, e := s.Read(n); e == api.OK {
			m.used[n] = string(b)
		}
	}
	for n := range api.Inodes {
		b, _ := s.Inode(n)
		m.inodes = append(m.inodes, string(b))
	}
	return m
}

func (m state) equals(o state) bool {
	if len(m.used) != len(o.used) {
		return false
	}
	for n, b := range m.used {
		if c, is := o.used[n]; !is || b != c {
			return false
		}
	}
	return m.groups == o.groups && m.blocks == o.blocks && m.free == o.free && slices.Equal(m.inodes, o.inodes)
}

// survivors are some choices among so many pending writes: all of them where they are few.
func survivors(n int) [][]int {
	if n > 3 {
		last := make([]int, n)
		last[n-1] = 1
		return [][]int{nil, {1}, {0, 1}, {1, 0}, {0, 0, 1}, last}
	}
	var l [][]int
	for choice := range 1 << n {
		keep := make([]int, n)
		for k := range keep {
			keep[k] = choice >> k & 1
		}
		l = append(l, keep)
	}
	return l
}

// boots are the disks that d, whose power is off, may be behind a boot.
func boots(d *disk.Disk) []*disk.Disk {
	var l []*disk.Disk
	for _, keep := range survivors(d.Waiting()) {
		c := d.Clone()
		c.Boot(keep)
		l = append(l, c)
	}
	return l
}

// cuts are the disks that d may be if the power fails during work; the power of each is off.
func cuts(d *disk.Disk, work func(*disk.Disk) api.Errno) []*disk.Disk {
	var l []*disk.Disk
	for fuse := 0; ; fuse++ {
		c := d.Clone()
		c.Fuse(fuse)
		if work(c) != api.ErrPower {
			return l
		}
		l = append(l, c)
	}
}

// settled is a disk whose space has committed two transactions, and aborted one.
func settled(t *testing.T) *disk.Disk {
	t.Helper()
	d := littered(t, 1024, 77)
	format(t, d)
	s := open(t, d)
	begin(t, s)
	take(t, s, span(751, 20)...)
	s.Write(755, block(5))
	s.SetInode(0, inode(1))
	s.SetInode(9, inode(2))
	commit(t, s)
	begin(t, s)
	s.Free(760)
	s.Write(756, block(6))
	commit(t, s)
	begin(t, s)
	take(t, s, 760)
	s.SetInode(9, inode(0))
	result(t, "Abort", s.Abort(), api.OK)
	return d
}

// change does what the crash tests' last transaction does, but does not commit it.
func change(s *alloc.Space) {
	s.Begin()
	s.Alloc()
	s.Alloc()
	s.Write(771, block(9))
	s.Free(755)
	s.Write(756, block(8))
	s.SetInode(9, inode(0))
	s.SetInode(255, inode(3))
	s.SetInode(1, inode(4))
}

func changing(d *disk.Disk) api.Errno {
	s, e := alloc.Open(d)
	if e != api.OK {
		return e
	}
	change(s)
	return s.Commit()
}

func opening(d *disk.Disk) api.Errno {
	_, e := alloc.Open(d)
	return e
}

// beforeAndAfter is what the space of a disk tells ahead of the last transaction, and behind it.
func beforeAndAfter(t *testing.T, d *disk.Disk) (state, state) {
	t.Helper()
	s := open(t, d.Clone())
	before := stateOf(s, d.Len())
	change(s)
	commit(t, s)
	return before, stateOf(s, d.Len())
}

// TestP4_6Commit lets the power fail at each step of a Commit, and at each step of the Open behind it.
func TestP4_6Commit(t *testing.T) {
	d := settled(t)
	before, after := beforeAndAfter(t, d)
	if before.equals(after) || after.groups != before.groups+1 {
		t.Fatal("the transaction does nothing")
	}
	undone, done := 0, 0
	for _, cut := range cuts(d, changing) {
		for _, b := range boots(cut) {
			c := b.Clone()
			steps := c.Steps()
			s := open(t, c)
			if c.Steps()-steps > api.Room+10 {
				t.Errorf("Open took %d steps", c.Steps()-steps)
			}
			decided := stateOf(s, d.Len())
			if decided.equals(before) {
				undone++
			} else if done++; !decided.equals(after) {
				t.Fatal("a part of the transaction is there")
			}
			closed(t, s)
			for _, again := range cuts(b, opening) {
				for _, c := range boots(again) {
					if !stateOf(open(t, c), d.Len()).equals(decided) {
						t.Fatal("a crash during Open changed what is there")
					}
				}
			}
		}
	}
	if undone == 0 || done == 0 {
		t.Errorf("%d crashes left the transaction undone, %d left it done", undone, done)
	}
}

// TestP4_6Answered: what was committed is there, what was not is not, whichever writes survive.
func TestP4_6Answered(t *testing.T) {
	d := settled(t)
	before, after := beforeAndAfter(t, d)
	s := open(t, d)
	change(s)
	c := d.Clone()
	dark(c)
	for _, b := range boots(c) {
		if !stateOf(open(t, b), d.Len()).equals(before) {
			t.Error("something of a transaction that was not committed is there")
		}
	}
	commit(t, s)
	for _, keep := range [][]int{nil, {1}, {0, 1}} {
		d.Boot(keep)
		if !stateOf(open(t, d), d.Len()).equals(after) {
			t.Error("something that was committed is gone")
		}
	}
}

// TestP4_6Greatest lets the power fail at some steps of the greatest transaction.
func TestP4_6Greatest(t *testing.T) {
	d, _ := space(t, 1400)
	work := func(s *alloc.Space) api.Errno {
		s.Begin()
		for range 597 {
			n, _ := s.Alloc()
			s.Write(n, block(byte(n)))
		}
		s.SetInode(0, inode(1))
		return s.Commit()
	}
	lost, kept := 0, 0
	for fuse := 0; ; fuse += 97 {
		for _, keep := range [][]int{nil, {1}, {0, 1}} {
			c := d.Clone()
			s := open(t, c)
			c.Fuse(fuse)
			e := work(s)
			c.Fuse(0)
			c.Boot(keep)
			steps := c.Steps()
			s = open(t, c)
			if c.Steps()-steps > api.Room+10 {
				t.Errorf("Open took %d steps", c.Steps()-steps)
			}
			if s.Groups() == 0 {
				empty(t, s, 1400)
				lost++
			} else {
				counts(t, s, 1400-752-597, 255, 1)
				read(t, s, 1348, block(1348%256))
				kept++
			}
			if e == api.OK && s.Groups() == 0 {
				t.Fatal("a transaction that was answered is gone")
			}
			if e == api.OK {
				if lost == 0 || kept < 6 {
					t.Error(lost, kept)
				}
				return
			}
		}
	}
}

// unfinished is a disk whose log has a group that the next Open completes.
func unfinished(t *testing.T) *disk.Disk {
	t.Helper()
	for _, d := range cuts(settled(t), changing) {
		d.Boot(nil)
		c := d.Clone()
		opening(c)
		if c.Steps() > d.Steps() {
			return d
		}
	}
	t.Fatal("no crash left a group to complete")
	return nil
}

// TestP4_2FormatCrashes lets the power fail at each step of Format: then there is no space, or the old one, or a new one.
func TestP4_2FormatCrashes(t *testing.T) {
	made, _ := space(t, 1024)
	anew := stateOf(open(t, made), 1024)
	for i, d := range []*disk.Disk{littered(t, 1024, 255), settled(t), unfinished(t)} {
		var old state
		if s, e := alloc.Open(d.Clone()); e == api.OK {
			old = stateOf(s, 1024)
		}
		none, same, other := 0, 0, 0
		for _, cut := range cuts(d, alloc.Format) {
			for _, b := range boots(cut) {
				s, e := alloc.Open(b.Clone())
				switch {
				case e == api.ErrCorrupt:
					none++
				case e != api.OK:
					t.Fatal(e)
				case stateOf(s, 1024).equals(anew):
					other++
				case i == 0 || !stateOf(s, 1024).equals(old):
					t.Fatal("neither the old space nor a new one")
				default:
					same++
				}
			}
			if b := boots(cut)[0]; cut.Steps()%9 == 0 {
				format(t, b)
				empty(t, open(t, b), 1024)
			}
		}
		if none == 0 || other == 0 || (same == 0) != (i == 0) {
			t.Errorf("disk %d: %d times none, %d times the old one, %d times a new one", i, none, same, other)
		}
	}
}

// TestP4_6Remains commits transactions at random, with crashes now and then.
func TestP4_6Remains(t *testing.T) {
	for seed := range 6 {
		r := dice(seed)
		d := settled(t)
		want := stateOf(open(t, d), d.Len())
		for range 25 {
			s := open(t, d)
			s.Begin()
			for range r.throw(12) {
				r.act(s, d.Len())
			}
			then := stateOf(s, d.Len())
			then.groups++
			d.Fuse(r.throw(50))
			e := s.Commit()
			d.Fuse(0)
			d.Boot(r.keep())
			for range r.throw(3) {
				d.Fuse(r.throw(20))
				opening(d)
				d.Fuse(0)
				d.Boot(r.keep())
			}
			got := stateOf(open(t, d), d.Len())
			if !got.equals(then) && (e == api.OK || !got.equals(want)) {
				t.Fatalf("seed %d: Commit returned %d, and something else is there", seed, e)
			}
			want = got
		}
	}
}

// dice throws the same numbers in each run.
type dice uint64

func (d *dice) throw(n int) int {
	*d = *d*6364136223846793005 + 1442695040888963407
	return int(uint64(*d) >> 33 % uint64(n))
}

func (d *dice) keep() []int {
	keep := make([]int, d.throw(9))
	for i := range keep {
		keep[i] = d.throw(2)
	}
	return keep
}

// bytes is so many bytes, now and then too few; the first of them is often 0.
func (d *dice) bytes(n int) []byte {
	b := bytes.Repeat([]byte{byte(d.throw(256))}, n)
	b[0], b[d.throw(n)] = byte(d.throw(2)), byte(d.throw(256))
	if d.throw(20) == 0 {
		return b[:d.throw(n)]
	}
	return b
}

// block is mostly one of the first 40, and now and then none.
func (d *dice) block(sectors int) int {
	if d.throw(12) == 0 {
		return []int{-1, alloc.First(sectors) - 1, sectors, sectors - 1}[d.throw(4)]
	}
	return alloc.First(sectors) + d.throw(40)
}

func (d *dice) act(s *alloc.Space, sectors int) {
	switch d.throw(6) {
	case 0, 1:
		s.Alloc()
	case 2:
		s.Free(d.block(sectors))
	case 3:
		s.Write(d.block(sectors), d.bytes(api.SectorSize))
	default:
		s.SetInode(d.throw(api.Inodes), d.bytes(inodeSize))
	}
}
