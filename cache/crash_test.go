package cache_test

import (
	"slices"
	"testing"

	"estafette/api"
	"estafette/cache"
	"estafette/disk"
	"estafette/wal"
)

// before is what sector i is full of when a crash test's last transaction begins: one has been committed, and one aborted.
func before(i int) byte {
	if i == 60 || i == 80 {
		return 201
	}
	return byte(i)
}

func started(t *testing.T) (*disk.Disk, *cache.Cache) {
	t.Helper()
	d, c := ground(t, 2)
	begin(t, c)
	write(t, c, 201, 60, 80)
	result(t, "Commit", c.Commit(), api.OK)
	begin(t, c)
	write(t, c, 202, 61, 80)
	result(t, "Abort", c.Abort(), api.OK)
	begin(t, c)
	return d, c
}

// outcome opens all anew, and tells whether the sectors of l were written, all of them or none, and nothing else.
func outcome(t *testing.T, d *disk.Disk, l []int) bool {
	t.Helper()
	w, e := wal.Open(d, 0, logSize)
	if e != api.OK {
		t.Fatal(e)
	}
	done := w.Groups() == 2
	c := over(t, d, w, 3)
	for i := logSize; i < sectors; i++ {
		if done && slices.Contains(l, i) {
			read(t, c, i, 203)
		} else {
			read(t, c, i, before(i))
		}
	}
	if w.Groups() < 1 || w.Groups() > 2 {
		t.Error(w.Groups())
	}
	return done
}

// TestP3_5Crashes lets the power fail at each step of a Commit: what was answered is there, of the rest everything or nothing.
func TestP3_5Crashes(t *testing.T) {
	for _, l := range [][]int{nil, {60}, {99, 61, 60, 40}} {
		lost, kept := false, false
		for fuse, e := 0, api.ErrPower; e == api.ErrPower; fuse++ {
			for _, keep := range [][]int{nil, {1}, {0, 1}, {1, 0}, {1, 0, 0}, {0, 1, 1}} {
				d, c := started(t)
				write(t, c, 203, l...)
				d.Fuse(fuse)
				e = c.Commit()
				d.Boot(keep)
				if outcome(t, d, l) {
					kept = true
				} else if lost = true; e != api.ErrPower {
					t.Errorf("fuse %d, keep %v: Commit returned %d, and its writes are gone", fuse, keep, e)
				}
			}
		}
		if !lost || !kept {
			t.Error("no crash left the transaction undone, or none left it done")
		}
	}
}

func TestP3_5CrashWithoutCommit(t *testing.T) {
	d, c := started(t)
	write(t, c, 203, 60, 61)
	dark(d)
	d.Boot([]int{1})
	if outcome(t, d, nil) {
		t.Error("a transaction that was not committed counts")
	}
}
