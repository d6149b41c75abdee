package wal_test

import (
	"slices"
	"testing"

	"estafette/api"
	"estafette/disk"
	"estafette/wal"
)

const (
	logAt   = 3
	logSize = 40
)

// survivors are choices among so many pending writes: all of them where they are few.
func survivors(n int) [][]int {
	if n <= 6 {
		var l [][]int
		for choice := range 1 << n {
			keep := make([]int, n)
			for k := range keep {
				keep[k] = choice >> k & 1
			}
			l = append(l, keep)
		}
		return l
	}
	l := [][]int{nil, {1}, {0, 1}, {1, 0}, {1, 0, 0}, {0, 0, 1}, {1, 1, 0}}
	for k := range n {
		one, butOne := make([]int, n), slices.Repeat([]int{1}, n)
		one[k], butOne[k] = 1, 0
		l = append(l, one, butOne)
	}
	return l
}

// boots are the disks that d, whose power is off, may be behind a boot.
func boots(d *disk.Disk) []*disk.Disk {
	var l []*disk.Disk
	for _, keep := range survivors(d.Waiting()) {
		c := d.Clone()
		c.Boot(keep)
		l = append(l, c)
	}
	return l
}

// cuts are the disks that d may be if the power fails during work; the power of each is off.
func cuts(d *disk.Disk, work func(*disk.Disk) api.Errno) []*disk.Disk {
	var l []*disk.Disk
	for fuse := 0; ; fuse++ {
		c := d.Clone()
		c.Fuse(fuse)
		if work(c) != api.ErrPower {
			return l
		}
		l = append(l, c)
	}
}

func committing(t *testing.T, groups int, l []api.Put) func(*disk.Disk) api.Errno {
	return func(d *disk.Disk) api.Errno { return open(t, d, logAt, logSize, groups).Commit(l) }
}

func opening(d *disk.Disk) api.Errno {
	_, e := wal.Open(d, logAt, logSize)
	return e
}

// outcome opens the log, and tells how many groups it has: the disk has before to it if the group l is not there, and l too if it is.
func outcome(t *testing.T, d *disk.Disk, groups int, before []string, l []api.Put) int {
	t.Helper()
	w, e := wal.Open(d, logAt, logSize)
	if e != api.OK {
		t.Fatal(e)
	}
	switch w.Groups() {
	case groups:
		same(t, d, before, logAt, logSize)
	case groups + 1:
		same(t, d, with(before, l), logAt, logSize)
	default:
		t.Fatalf("Groups %d, was %d", w.Groups(), groups)
	}
	return w.Groups()
}

// logged is a disk of 90 sectors with a log that has done two groups, the first of them the greatest that may be.
func logged(t *testing.T) *disk.Disk {
	t.Helper()
	d := fresh(t, 90)
	format(t, d, logAt, logSize)
	w := open(t, d, logAt, logSize, 0)
	commit(t, w, puts(45, wal.Room(logSize), 1), api.OK)
	commit(t, w, puts(50, 5, 2), api.OK)
	return d
}

func crashGroups() [][]api.Put {
	return [][]api.Put{nil, puts(50, 1, 3), puts(49, 2, 4), {{Sector: 89, Bytes: full(5)}, {Sector: 0, Bytes: full(6)}, {Sector: 2, Bytes: full(7)}}, puts(48, 33, 8), puts(45, wal.Room(logSize), 9)}
}

// TestP2_6Commit lets the power fail at each step of a Commit, and at each step of the Open behind it, with many choices of survivors each time.
func TestP2_6Commit(t *testing.T) {
	for _, l := range crashGroups() {
		d := logged(t)
		before := image(d)
		seen := map[int]int{}
		for _, cut := range cuts(d, committing(t, 2, l)) {
			for _, b := range boots(cut) {
				decided := outcome(t, b.Clone(), 2, before, l)
				seen[decided]++
				if len(l) > 3 && seen[decided]%500 != 1 {
					continue // a great group has too many cases
				}
				for _, again := range cuts(b, opening) {
					for _, c := range boots(again) {
						if got := outcome(t, c, 2, before, l); got != decided {
							t.Fatalf("a crash during Open changed Groups from %d to %d", decided, got)
						}
					}
				}
			}
		}
		if seen[2] == 0 || seen[3] == 0 {
			t.Errorf("%d puts: a crash never left the group undone, or never left it done: %v", len(l), seen)
		}
	}
}

// TestP2_6StaysDecided goes on behind a crash: what Open decided holds at later groups and crashes.
func TestP2_6StaysDecided(t *testing.T) {
	l, more := puts(49, 2, 4), puts(50, 3, 5)
	d := logged(t)
	before := image(d)
	for _, cut := range cuts(d, committing(t, 2, l)) {
		for _, b := range boots(cut) {
			groups := outcome(t, b, 2, before, l)
			then := image(b)
			for _, next := range cuts(b, committing(t, groups, more)) {
				for _, c := range boots(next) {
					outcome(t, c, groups, then, more)
				}
			}
			commit(t, open(t, b, logAt, logSize, groups), more, api.OK)
			open(t, b, logAt, logSize, groups+1)
			same(t, b, with(then, more), logAt, logSize)
		}
	}
}

// TestP2_6NotDoneTwice: a group whose Commit returned OK is not done again over what somebody wrote later.
func TestP2_6NotDoneTwice(t *testing.T) {
	d := logged(t)
	commit(t, open(t, d, logAt, logSize, 2), puts(50, 2, 3), api.OK)
	d.Write(50, full(77))
	d.Barrier()
	before := image(d)
	for _, cut := range cuts(d, committing(t, 3, puts(60, 2, 4))) {
		for _, b := range boots(cut) {
			outcome(t, b, 3, before, puts(60, 2, 4))
		}
	}
	d.Boot(nil)
	open(t, d, logAt, logSize, 3)
	same(t, d, before, logAt, logSize)
}

// unfinished is a disk whose log has a group that the next Open completes.
func unfinished(t *testing.T) *disk.Disk {
	t.Helper()
	l := cuts(logged(t), committing(t, 2, puts(49, 3, 4)))
	for _, d := range l {
		d.Boot(nil)
		c := d.Clone()
		opening(c)
		if c.Steps() > d.Steps() {
			return d
		}
	}
	t.Fatal("no crash left a group to complete")
	return nil
}

func TestP2_6Format(t *testing.T) {
	garbage := fresh(t, 90)
	for i := range garbage.Len() {
		garbage.Write(i, full(byte(i)))
	}
	garbage.Barrier()
	for _, size := range []int{logSize, 20, 60} {
		formatting := func(d *disk.Disk) api.Errno { return wal.Format(d, logAt, size) }
		for i, d := range []*disk.Disk{garbage, logged(t), unfinished(t)} {
			before := image(d)
			for _, cut := range cuts(d, formatting) {
				for _, b := range boots(cut) {
					old, e := wal.Open(b.Clone(), logAt, logSize)
					if e == api.OK && old.Groups() == 0 && size != logSize || e == api.OK && old.Groups() != 0 && old.Groups() != []int{0, 2, 3}[i] {
						t.Errorf("a log with %d groups", old.Groups())
					}
					if e != api.OK && e != api.ErrCorrupt {
						t.Error(e)
					}
					w, e := wal.Open(b.Clone(), logAt, size)
					if size != logSize && e == api.OK && w.Groups() != 0 || i == 1 && size == logSize && e != api.OK {
						t.Error("neither the old log nor a new one", e)
					}
					same(t, b, before, logAt, max(size, logSize))
					format(t, b, logAt, size)
					open(t, b, logAt, size, 0)
				}
			}
		}
	}
}

func TestP2_7OpenTwice(t *testing.T) {
	for _, l := range crashGroups() {
		d := logged(t)
		before := image(d)
		for _, cut := range cuts(d, committing(t, 2, l)) {
			for _, b := range boots(cut) {
				groups := outcome(t, b, 2, before, l)
				if b.Waiting() != 0 {
					t.Fatal("Open left pending writes")
				}
				first := image(b)
				open(t, b, logAt, logSize, groups)
				if !slices.Equal(image(b), first) {
					t.Fatal("the second Open changed the disk")
				}
			}
		}
	}
}

// TestP2_7Remains does groups at random, with crashes now and then: what returned OK is there ever after.
func TestP2_7Remains(t *testing.T) {
	for seed := range 40 {
		r := dice(seed)
		d := logged(t)
		want, groups := image(d), 2
		for range 60 {
			w := open(t, d, logAt, logSize, groups)
			for range r.throw(4) {
				l := r.group()
				commit(t, w, l, api.OK)
				want, groups = with(want, l), groups+1
			}
			l := r.group()
			d.Fuse(r.throw(3*len(l) + 8))
			e := w.Commit(l)
			d.Fuse(0)
			d.Boot(r.keep())
			for range r.throw(3) {
				d.Fuse(r.throw(len(l) + 3))
				opening(d)
				d.Boot(r.keep())
			}
			if now := outcome(t, d, groups, want, l); now > groups {
				want, groups = with(want, l), now
			} else if e == api.OK {
				t.Fatal("a group that returned OK is gone")
			}
		}
	}
}

// dice throws the same numbers in each run.
type dice uint64

func (d *dice) throw(n int) int {
	*d = *d*6364136223846793005 + 1442695040888963407
	return int(uint64(*d) >> 33 % uint64(n))
}

func (d *dice) keep() []int {
	keep := make([]int, d.throw(9))
	for i := range keep {
		keep[i] = d.throw(2)
	}
	return keep
}

func (d *dice) group() []api.Put {
	n := d.throw(wal.Room(logSize) + 1)
	if d.throw(2) == 0 {
		n = d.throw(4)
	}
	free := []int{0, 1, 2}
	for i := logAt + logSize; i < 90; i++ {
		free = append(free, i)
	}
	var l []api.Put
	for range n {
		k := d.throw(len(free))
		l = append(l, api.Put{Sector: free[k], Bytes: full(byte(d.throw(256)))})
		free = slices.Delete(free, k, k+1)
	}
	return l
}
