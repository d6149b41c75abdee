package alloc_test

import (
	"bytes"
	"maps"
	"slices"
	"testing"

	"estafette/alloc"
	"estafette/api"
	"estafette/disk"
)

// content is what a model's transaction may change.
type content struct {
	used   map[int]string
	inodes [api.Inodes]string
}

func (c content) clone() content {
	c.used = maps.Clone(c.used)
	return c
}

// model is the chapter taken word by word, without a disk.
type model struct {
	first, sectors int
	now, committed content
	open           bool
	groups         int
}

func newModel(sectors int) *model {
	m := &model{first: alloc.First(sectors), sectors: sectors}
	m.now.used = map[int]string{}
	for n := range m.now.inodes {
		m.now.inodes[n] = string(inode(0))
	}
	m.committed = m.now.clone()
	return m
}

func (m *model) begin() api.Errno {
	if m.open {
		return api.ErrOpen
	}
	m.open = true
	return api.OK
}

func (m *model) commit() api.Errno {
	if !m.open {
		return api.ErrOpen
	}
	m.open, m.committed = false, m.now.clone()
	m.groups++
	return api.OK
}

func (m *model) abort() api.Errno {
	if !m.open {
		return api.ErrOpen
	}
	m.open, m.now = false, m.committed.clone()
	return api.OK
}

func (m *model) alloc() (int, api.Errno) {
	if !m.open {
		return 0, api.ErrOpen
	}
	for n := m.first; n < m.sectors; n++ {
		if _, is := m.now.used[n]; !is {
			m.now.used[n] = string(block(0))
			return n, api.OK
		}
	}
	return 0, api.ErrFull
}

func (m *model) inUse(n int) api.Errno {
	if n < m.first || n >= m.sectors {
		return api.ErrBlock
	}
	if _, is := m.now.used[n]; !is {
		return api.ErrFree
	}
	return api.OK
}

func (m *model) free(n int) api.Errno {
	if !m.open {
		return api.ErrOpen
	}
	e := m.inUse(n)
	if e == api.OK {
		delete(m.now.used, n)
	}
	return e
}

func (m *model) write(n int, b []byte) api.Errno {
	if !m.open {
		return api.ErrOpen
	}
	if e := m.inUse(n); e != api.OK {
		return e
	}
	if len(b) != api.SectorSize {
		return api.ErrBytes
	}
	m.now.used[n] = string(b)
	return api.OK
}

func (m *model) setInode(n int, b []byte) api.Errno {
	switch {
	case !m.open:
		return api.ErrOpen
	case n < 0 || n >= api.Inodes:
		return api.ErrBlock
	case len(b) != inodeSize:
		return api.ErrBytes
	}
	m.now.inodes[n] = string(b)
	return api.OK
}

// freeInodes are their numbers.
func (m *model) freeInodes() []int {
	var l []int
	for n, b := range m.now.inodes {
		if b[0] == 0 {
			l = append(l, n)
		}
	}
	return l
}

// pair is a space, and a model that does the same.
type pair struct {
	d *disk.Disk
	s *alloc.Space
	m *model
}

func (p *pair) act(t *testing.T, r *dice) {
	t.Helper()
	var got, want api.Errno
	n, k := 0, 0
	switch r.throw(30) {
	case 0, 1, 2:
		got, want = p.s.Begin(), p.m.begin()
	case 3:
		got, want = p.s.Commit(), p.m.commit()
	case 4:
		got, want = p.s.Abort(), p.m.abort()
	case 5:
		p.reopen(t)
	case 6, 7, 8, 9, 10, 11:
		n, got = p.s.Alloc()
		k, want = p.m.alloc()
	case 12, 13, 14, 15:
		n := r.block(p.m.sectors)
		got, want = p.s.Free(n), p.m.free(n)
	case 16, 17, 18, 19, 20, 21:
		n, b := r.block(p.m.sectors), r.bytes(api.SectorSize)
		got, want = p.s.Write(n, b), p.m.write(n, b)
	default:
		n, b := r.throw(20)*r.throw(15)-1, r.bytes(inodeSize)
		got, want = p.s.SetInode(n, b), p.m.setInode(n, b)
	}
	if n != k || got != want {
		t.Fatalf("%d, %d; want %d, %d", n, got, k, want)
	}
}

// reopen forgets the open transaction, if there is one.
func (p *pair) reopen(t *testing.T) {
	t.Helper()
	p.d.Boot([]int{1, 0})
	p.s = open(t, p.d)
	p.m.abort()
}

func (p *pair) same(t *testing.T, r *dice) {
	t.Helper()
	free := p.m.freeInodes()
	counts(t, p.s, p.m.sectors-p.m.first-len(p.m.now.used), len(free), p.m.groups)
	if len(free) > 0 {
		next(t, p.s, free[0], api.OK)
	} else {
		next(t, p.s, 0, api.ErrNodes)
	}
	for range 10 {
		n := r.block(p.m.sectors)
		if e := p.m.inUse(n); e != api.OK {
			readFails(t, p.s, n, e)
		} else {
			read(t, p.s, n, []byte(p.m.now.used[n]))
		}
		n = r.throw(api.Inodes)
		readInode(t, p.s, n, []byte(p.m.now.inodes[n]))
	}
	if t.Failed() {
		t.FailNow()
	}
}

// TestAgainstModel lets a space and the model do the same at random; each block is free or used in both alike.
func TestAgainstModel(t *testing.T) {
	for seed := range 24 {
		r := dice(seed)
		sectors := []int{1024, 1025, 1536, 1537, 8192, 1026}[seed%6]
		d, s := space(t, sectors)
		p := &pair{d, s, newModel(sectors)}
		for range 300 {
			p.act(t, &r)
			p.same(t, &r)
		}
		p.reopen(t)
		got := stateOf(p.s, sectors)
		if !maps.Equal(got.used, p.m.now.used) || !slices.Equal(got.inodes, p.m.now.inodes[:]) {
			t.Fatal("other blocks or inodes are there")
		}
	}
}

// TestP4_7Least fills a small space, frees blocks at random, and takes them again: in increasing order, each once.
func TestP4_7Least(t *testing.T) {
	const sectors = 1040
	_, s := space(t, sectors)
	r := dice(1)
	first := alloc.First(sectors)
	begin(t, s)
	take(t, s, span(first, sectors-first)...)
	for n := first; n < sectors; n++ {
		s.Write(n, block(byte(n)))
	}
	for range 20 {
		freed := map[int]bool{}
		for range r.throw(100) {
			n := first + r.throw(sectors-first)
			want := api.OK
			if freed[n] {
				want = api.ErrFree
			}
			result(t, "Free", s.Free(n), want)
			freed[n] = true
		}
		if s.Blocks() != len(freed) {
			t.Errorf("Blocks %d, want %d", s.Blocks(), len(freed))
		}
		for _, n := range slices.Sorted(maps.Keys(freed)) {
			take(t, s, n)
			read(t, s, n, block(0))
			s.Write(n, block(byte(n)))
		}
		noBlock(t, s, api.ErrFull)
	}
	for n := first; n < sectors; n++ {
		if b, _ := s.Read(n); !bytes.Equal(b, block(byte(n))) {
			t.Errorf("block %d: %v", n, b)
		}
	}
	commit(t, s)
}
