package dirfs_test

import (
	"maps"
	"testing"

	"estafette/alloc"
	"estafette/api"
	"estafette/dirfs"
	"estafette/disk"
)

// keeps are choices of the pending writes that survive a boot.
var keeps = [][]int{nil, {1}, {0, 1}, {1, 0}, {0, 0, 1}, {1, 1, 0, 1, 0}}

// boots are the disks that d, whose power is off, may be behind a boot.
func boots(d *disk.Disk) []*disk.Disk {
	var l []*disk.Disk
	for _, keep := range keeps {
		c := d.Clone()
		c.Boot(keep)
		l = append(l, c)
	}
	return l
}

// cuts are the disks that d may be if the power fails during work; the power of each is off.
func cuts(d *disk.Disk, work func(*disk.Disk) api.Errno) []*disk.Disk {
	var l []*disk.Disk
	for fuse := 0; ; fuse++ {
		c := d.Clone()
		c.Fuse(fuse)
		if work(c) != api.ErrPower {
			return l
		}
		l = append(l, c)
	}
}

func opening(d *disk.Disk) api.Errno {
	_, e := dirfs.Open(d)
	return e
}

// settled is a disk with a tree that has files, directories, links, and some groups.
func settled(t *testing.T) *disk.Disk {
	t.Helper()
	d, f := tree(t, 1200)
	done(t, f, dir("/a"), file("/a/f", text(3000)), dir("/b"), link("/a/f", "/b/g"))
	done(t, f, file("/h", text(400)), file("/b/i", nil), dir("/a/c"))
	refused(t, d, f, api.ErrThere, dir("/x"), dir("/a"))
	return d
}

// TestP6_5Do lets the power fail at each step of a Do, and at each step of the Open behind it.
func TestP6_5Do(t *testing.T) {
	for what, l := range map[string][]api.Act{
		"no acts":  {},
		"one act":  {dir("/d")},
		"many":     {write("/a/f", text(200)), dir("/d"), rename("/b/g", "/h"), unlink("/b/i"), rmdir("/a/c"), file("/d/j", text(900)), attach("/d/j", text(70)), link("/d/j", "/b/k")},
		"one file": {unlink("/h")},
	} {
		d := settled(t)
		doing := func(d *disk.Disk) api.Errno { return open(t, d).Do(l) }
		before := image(t, open(t, d))
		c := d.Clone()
		result(t, what, doing(c), api.OK)
		after := image(t, open(t, c))
		undone, finished := 0, 0
		for k, cut := range cuts(d, doing) {
			for _, b := range boots(cut) {
				c := b.Clone()
				steps := c.Steps()
				decided := image(t, open(t, c))
				if c.Steps()-steps > api.Room+10 {
					t.Errorf("%s: Open took %d steps", what, c.Steps()-steps)
				}
				if maps.Equal(decided, before) {
					undone++
				} else if finished++; !maps.Equal(decided, after) {
					t.Fatalf("%s: a part of the acts is done", what)
				}
				if k%5 != 0 { // the others take long, and tell little more
					continue
				}
				for _, again := range cuts(b, opening) {
					for _, c := range boots(again) {
						if !maps.Equal(image(t, open(t, c)), decided) {
							t.Fatalf("%s: a crash during Open changed what is there", what)
						}
					}
				}
			}
		}
		if undone == 0 || finished == 0 {
			t.Errorf("%s: %d crashes left the acts undone, %d left them done", what, undone, finished)
		}
	}
}

// TestP6_5Refused: acts that are refused take no step, so that a fuse of 0 does not show.
func TestP6_5Refused(t *testing.T) {
	d := settled(t)
	f := open(t, d)
	d.Fuse(0)
	refused(t, d, f, api.ErrBusy, unlink("/h"), rmdir("/a"))
	refused(t, d, f, api.ErrLong, make([]api.Act, 45)...)
	stat(t, f, "/h", 1, 1, 400)
	if !d.On() {
		t.Error("the power is off")
	}
	result(t, "Do", f.Do(nil), api.ErrPower)
	if d.On() {
		t.Error("the power is on")
	}
}

// TestP6_5Answered: what was answered with OK is there, whichever writes survive.
func TestP6_5Answered(t *testing.T) {
	d := settled(t)
	f := open(t, d)
	done(t, f, write("/a/f", text(5000)), unlink("/h"))
	want := image(t, f)
	d.Fuse(0)
	d.Barrier()
	for _, b := range boots(d) {
		if !maps.Equal(image(t, open(t, b)), want) {
			t.Error("something of what was answered is missing")
		}
	}
}

// TestP6_5Format lets the power fail at each step of a Format: there is no tree then, the old one, or a new one.
func TestP6_5Format(t *testing.T) {
	old := settled(t)
	plain := newDisk(t, 1200)
	littered := newDisk(t, 1200)
	for i := range 1200 {
		littered.Write(i, text(64))
	}
	_, f := tree(t, 1200)
	empty := image(t, f)
	space := newDisk(t, 1200)
	result(t, "Format", alloc.Format(space), api.OK)
	for what, d := range map[string]*disk.Disk{"a tree": old, "zeros": plain, "anything": littered, "a space": space} {
		was := map[string]string{}
		if f, e := dirfs.Open(d.Clone()); e == api.OK {
			was = image(t, f)
		}
		none, kept, made := 0, 0, 0
		for _, cut := range cuts(d, dirfs.Format) {
			for _, b := range boots(cut) {
				f, e := dirfs.Open(b)
				if e == api.ErrCorrupt {
					none++
					result(t, what, dirfs.Format(b), api.OK)
					f = open(t, b)
				} else if e != api.OK {
					t.Fatalf("%s: Open: %d", what, e)
				}
				got := image(t, f)
				if maps.Equal(got, was) {
					kept++
				} else if made++; !maps.Equal(got, empty) {
					t.Fatalf("%s: another tree is there", what)
				}
				done(t, f, dir("/new"), file("/new/f", text(1000)))
				read(t, open(t, b), "/new/f", text(1000))
			}
		}
		if none == 0 || made == 0 || (kept > 0) != (len(was) > 0) {
			t.Errorf("%s: %d without a tree, %d with the old one, %d with a new one", what, none, kept, made)
		}
	}
}

// TestP6_5TimeAndAgain lets the power fail again and again, at random, during Do and Open, beside the model.
func TestP6_5TimeAndAgain(t *testing.T) {
	lost, kept := 0, 0
	for seed := range 6 {
		g := &game{dice(seed + 77), 6, 3, 2500}
		d, f := tree(t, 1100)
		m := newModel(1100)
		for range 60 {
			l := accepted(g, m, g.r.throw(7))
			then := &model{m.root.clone(map[*thing]*thing{}), m.blocks, m.groups}
			then.do(l)
			d.Fuse(g.r.throw(120))
			if e := f.Do(l); e != api.OK && e != api.ErrPower {
				t.Fatalf("Do: %d: %s", e, told(l))
			} else if e == api.OK {
				d.Fuse(-1)
				m = then
				m.same(t, f)
				continue
			}
			f = reopened(t, d, g)
			if f.Groups() == m.groups {
				lost++
			} else {
				kept++
				m = then
			}
			m.same(t, f)
		}
	}
	if lost < 20 || kept < 20 {
		t.Errorf("%d times the acts were lost, %d times not", lost, kept)
	}
}

// reopened boots a disk and opens its tree, with the power failing now and then.
func reopened(t *testing.T, d *disk.Disk, g *game) *dirfs.FS {
	t.Helper()
	for {
		d.Boot([]int{g.r.throw(2), g.r.throw(2), g.r.throw(2), g.r.throw(2), g.r.throw(2)})
		d.Fuse(g.r.throw(200)) // the Do took fewer than 120 steps, and so has few sectors to complete
		f, e := dirfs.Open(d)
		if e == api.OK {
			d.Fuse(-1)
			return f
		}
		if e != api.ErrPower {
			t.Fatalf("Open: %d", e)
		}
	}
}
