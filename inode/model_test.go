package inode_test

import (
	"bytes"
	"maps"
	"testing"

	"estafette/alloc"
	"estafette/api"
	"estafette/disk"
	"estafette/inode"
)

// dice throws the same numbers in each run.
type dice uint64

func (d *dice) throw(n int) int {
	*d = *d*6364136223846793005 + 1442695040888963407
	return int(uint64(*d) >> 33 % uint64(n))
}

// size is mostly small, or one of those at which a file's blocks change; now and then too great.
func (d *dice) size() int {
	switch d.throw(8) {
	case 0, 1, 2:
		return d.throw(400)
	case 3, 4:
		return d.throw(5000)
	case 5:
		return d.throw(16600)
	}
	return marks[d.throw(len(marks))] + d.throw(3) - 1
}

func (d *dice) bytes() []byte {
	b := make([]byte, max(0, d.size()))
	for i := range b {
		b[i] = byte(d.throw(256))
	}
	return b
}

// file is a file of the model.
type file struct {
	kind, links int
	bytes       string
}

// model is the chapter taken word by word, without a space.
type model struct {
	now, committed map[int]file
	blocks         int
	open           bool
}

func newModel(blocks int) *model {
	return &model{now: map[int]file{}, committed: map[int]file{}, blocks: blocks}
}

func (m *model) free() int {
	n := m.blocks
	for _, f := range m.now {
		n -= inode.Cost(len(f.bytes))
	}
	return n
}

func (m *model) make(kind int) (int, api.Errno) {
	switch {
	case !m.open:
		return 0, api.ErrOpen
	case kind != 1 && kind != 2:
		return 0, api.ErrArg
	}
	for n := range api.Inodes {
		if _, is := m.now[n]; !is {
			m.now[n] = file{kind: kind, links: 1}
			return n, api.OK
		}
	}
	return 0, api.ErrNodes
}

func (m *model) find(n int) (file, api.Errno) {
	f, is := m.now[n]
	if !m.open {
		return f, api.ErrOpen
	}
	if !is {
		return f, api.ErrInode
	}
	return f, api.OK
}

func (m *model) write(n, at int, b []byte) api.Errno {
	f, e := m.find(n)
	if e != api.OK {
		return e
	}
	if at < 0 {
		return api.ErrArg
	}
	if at+len(b) > api.MaxFile {
		return api.ErrLong
	}
	if len(b) == 0 {
		return api.OK
	}
	all := make([]byte, max(at+len(b), len(f.bytes)))
	copy(all, f.bytes)
	copy(all[at:], b)
	if inode.Cost(len(all))-inode.Cost(len(f.bytes)) > m.free() {
		return api.ErrFull
	}
	f.bytes = string(all)
	m.now[n] = f
	return api.OK
}

func (m *model) cut(n, size int) api.Errno {
	f, e := m.find(n)
	if e != api.OK {
		return e
	}
	if size < 0 || size > len(f.bytes) {
		return api.ErrArg
	}
	f.bytes = f.bytes[:size]
	m.now[n] = f
	return api.OK
}

func (m *model) link(n, by int) api.Errno {
	f, e := m.find(n)
	if e != api.OK {
		return e
	}
	if by != 1 && by != -1 {
		return api.ErrArg
	}
	f.links += by
	m.now[n] = f
	if f.links == 0 {
		delete(m.now, n)
	}
	return api.OK
}

// pair is files, and a model that does the same.
type pair struct {
	d *disk.Disk
	s *alloc.Space
	f *inode.Files
	m *model
	r dice
}

// act does one thing at random, and counts what it answered.
func (p *pair) act(t *testing.T, answers map[api.Errno]int) {
	t.Helper()
	r := &p.r
	var got, want api.Errno
	n, k := 0, 0
	file := r.throw(7) - 1
	if !p.m.open && r.throw(3) > 0 {
		p.turn(t)
	}
	switch r.throw(12) {
	case 0, 1, 2:
		kind := r.throw(9) % 4
		n, got = p.f.Make(kind)
		k, want = p.m.make(kind)
	case 3, 4, 5, 6, 7:
		at, b := r.size(), r.bytes()
		got, want = p.f.Write(file, at, b), p.m.write(file, at, b)
	case 8, 9:
		size := r.size()
		got, want = p.f.Cut(file, size), p.m.cut(file, size)
	case 10:
		by := []int{1, 1, -1, -1, -1, 0, 2}[r.throw(7)]
		got, want = p.f.Link(file, by), p.m.link(file, by)
	default:
		p.turn(t)
	}
	if n != k || got != want {
		t.Fatalf("%d, %d; want %d, %d", n, got, k, want)
	}
	answers[got]++
}

// turn begins or ends a transaction, or opens the space again.
func (p *pair) turn(t *testing.T) {
	t.Helper()
	choice := p.r.throw(6)
	switch {
	case !p.m.open:
		result(t, "Begin", p.s.Begin(), api.OK)
		p.m.open = true
	case choice < 4:
		if e := p.s.Commit(); e == api.OK {
			p.m.committed = maps.Clone(p.m.now)
		} else if e != api.ErrGroup {
			t.Fatal(e)
		} else { // it wrote too much
			p.s.Abort()
			p.m.now = maps.Clone(p.m.committed)
		}
		p.m.open = false
	case choice == 4:
		result(t, "Abort", p.s.Abort(), api.OK)
		p.m.now, p.m.open = maps.Clone(p.m.committed), false
	default:
		p.d.Boot([]int{0, 1})
		p.s = open(t, p.d)
		p.f = inode.New(p.s)
		p.m.now, p.m.open = maps.Clone(p.m.committed), false
	}
}

// same tells that the space has the model's files, and no block beside theirs.
func (p *pair) same(t *testing.T) {
	t.Helper()
	for n := range 12 {
		want, is := p.m.now[n]
		if !is {
			noFile(t, p.f, n)
			continue
		}
		stat(t, p.f, n, want.kind, want.links, len(want.bytes))
		read(t, p.f, n, 0, api.MaxFile, []byte(want.bytes))
		if len(want.bytes) > 0 {
			at, many := p.r.throw(len(want.bytes)), p.r.throw(300)
			read(t, p.f, n, at, many, []byte(want.bytes[at:min(len(want.bytes), at+many)]))
		}
	}
	free(t, p.s, p.m.free())
	if p.s.Inodes() != api.Inodes-len(p.m.now) {
		t.Errorf("%d inodes are free", p.s.Inodes())
	}
	if t.Failed() {
		t.FailNow()
	}
}

// TestP5_6AgainstModel lets files and the model do the same at random, in spaces that are often full, and whose blocks had other bytes.
func TestP5_6AgainstModel(t *testing.T) {
	answers := map[api.Errno]int{}
	for seed := range 16 {
		sectors := []int{1024, 1400, 1100, 2048}[seed%4]
		d, s := space(t, sectors)
		s.Begin()
		for s.Blocks() > max(0, sectors-alloc.First(sectors)-500) {
			n, _ := s.Alloc()
			s.Write(n, full(byte(n), api.SectorSize))
		}
		for n := alloc.First(sectors); n < sectors; n++ {
			s.Free(n)
		}
		result(t, "Commit", s.Commit(), api.OK)
		p := &pair{d, s, inode.New(s), newModel(s.Blocks()), dice(seed)}
		for range 300 {
			p.act(t, answers)
			p.same(t)
		}
	}
	for _, e := range []api.Errno{api.OK, api.ErrArg, api.ErrFull, api.ErrLong, api.ErrOpen, api.ErrInode} {
		if answers[e] < 20 {
			t.Errorf("%d happened %d times only", e, answers[e])
		}
	}
}

// TestP5_6Apart writes each of several files with one byte of its own: none has a byte of another.
func TestP5_6Apart(t *testing.T) {
	s, f := files(t, 2048)
	all := s.Blocks()
	var sizes [20]int
	r := dice(3)
	for n := range sizes {
		made(t, f, 1, n)
	}
	for round := range 60 {
		n := r.throw(len(sizes))
		size := marks[r.throw(len(marks))] / 4
		if round%3 == 0 {
			sizes[n] = min(size, sizes[n])
			result(t, "Cut", f.Cut(n, sizes[n]), api.OK)
		} else {
			sizes[n] = max(size, sizes[n])
			write(t, f, n, 0, full(byte(n+1), size))
		}
		left := all
		for n, size := range sizes {
			left -= inode.Cost(size)
			if b, _ := f.Read(n, 0, api.MaxFile); !bytes.Equal(b, full(byte(n+1), size)) {
				t.Fatalf("file %d has other bytes", n)
			}
		}
		free(t, s, left)
	}
	for n := range sizes {
		result(t, "Link", f.Link(n, -1), api.OK)
	}
	free(t, s, all)
}

// TestCrash lets the power fail at steps of a Commit: all files are as they were, or as they became.
func TestCrash(t *testing.T) {
	d, s := space(t, 1400)
	f := inode.New(s)
	s.Begin()
	made(t, f, 1, 0, 1)
	write(t, f, 0, 0, text(9000))
	write(t, f, 1, 0, text(3000))
	result(t, "Commit", s.Commit(), api.OK)
	work := func(s *alloc.Space) api.Errno {
		f := inode.New(s)
		s.Begin()
		f.Make(2)
		f.Write(2, 700, text(1000))
		f.Cut(0, 100)
		f.Link(1, -1)
		return s.Commit()
	}
	before := image(s)
	s = open(t, d.Clone())
	result(t, "Commit", work(s), api.OK)
	after := image(s)
	lost, kept := 0, 0
	for fuse := 0; ; fuse++ {
		for _, keep := range [][]int{nil, {1}, {0, 1}} {
			c := d.Clone()
			s := open(t, c)
			c.Fuse(fuse)
			e := work(s)
			c.Boot(keep)
			got := image(open(t, c))
			switch {
			case maps.Equal(got, after):
				kept++
			case e == api.OK || !maps.Equal(got, before):
				t.Fatalf("fuse %d: Commit returned %d, and something else is there", fuse, e)
			default:
				lost++
			}
			if e == api.OK {
				if lost == 0 || kept < 2 {
					t.Error(lost, kept)
				}
				return
			}
		}
	}
}
