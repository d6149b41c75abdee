package cache_test

import (
	"bytes"
	"slices"
	"testing"

	"estafette/api"
	"estafette/cache"
	"estafette/disk"
	"estafette/wal"
)

// place is a cached sector of the model.
type place struct {
	sector int
	bytes  []byte
	pinned bool
}

// model is the chapter taken word by word, without regard to cost, over a disk that has no log.
type model struct {
	disk   [][]byte
	cached []place // the least recently used one first
	most   int
	misses int
	open   bool
	groups int
}

func (m *model) find(i int) int {
	return slices.IndexFunc(m.cached, func(p place) bool { return p.sector == i })
}

func (m *model) pinned() []place {
	var l []place
	for _, p := range m.cached {
		if p.pinned {
			l = append(l, p)
		}
	}
	return l
}

func (m *model) shrink() {
	for len(m.cached) > m.most && len(m.pinned()) < len(m.cached) {
		k := slices.IndexFunc(m.cached, func(p place) bool { return !p.pinned })
		m.cached = slices.Delete(m.cached, k, k+1)
	}
}

func (m *model) read(i int) ([]byte, api.Errno) {
	if i < 0 || i >= len(m.disk) {
		return nil, api.ErrPlace
	}
	p := place{sector: i}
	if k := m.find(i); k >= 0 {
		p = m.cached[k]
		m.cached = slices.Delete(m.cached, k, k+1)
	} else {
		p.bytes = m.disk[i]
		m.misses++
	}
	m.cached = append(m.cached, p)
	m.shrink()
	return p.bytes, api.OK
}

func (m *model) write(i int, b []byte) api.Errno {
	switch {
	case !m.open:
		return api.ErrOpen
	case i < 0 || i >= len(m.disk):
		return api.ErrPlace
	case len(b) != api.SectorSize:
		return api.ErrBytes
	}
	if k := m.find(i); k >= 0 {
		m.cached = slices.Delete(m.cached, k, k+1)
	}
	m.cached = append(m.cached, place{i, b, true})
	return api.OK
}

func (m *model) begin() api.Errno {
	if m.open {
		return api.ErrOpen
	}
	m.open = true
	return api.OK
}

func (m *model) commit(at, size int) api.Errno {
	if !m.open {
		return api.ErrOpen
	}
	l := m.pinned()
	if len(l) > wal.Room(size) || slices.ContainsFunc(l, func(p place) bool { return p.sector >= at && p.sector < at+size }) {
		return api.ErrGroup
	}
	for _, p := range l {
		m.disk[p.sector] = p.bytes
	}
	for k := range m.cached {
		m.cached[k].pinned = false
	}
	m.open = false
	m.groups++
	m.shrink()
	return api.OK
}

func (m *model) abort() api.Errno {
	if !m.open {
		return api.ErrOpen
	}
	m.cached = slices.DeleteFunc(m.cached, func(p place) bool { return p.pinned })
	m.open = false
	return api.OK
}

func (m *model) held() []int {
	var l []int
	for _, p := range m.cached {
		l = append(l, p.sector)
	}
	return l
}

// dice throws the same numbers in each run.
type dice uint64

func (d *dice) throw(n int) int {
	*d = *d*6364136223846793005 + 1442695040888963407
	return int(uint64(*d) >> 33 % uint64(n))
}

func (d *dice) sector() []byte {
	b := full(byte(d.throw(256)))
	b[d.throw(len(b))] = byte(d.throw(256))
	if d.throw(16) == 0 {
		return b[:d.throw(len(b))]
	}
	return b
}

// place is mostly a sector that a transaction may write, and now and then one of the log's, which stand from 3 on, or none.
func (d *dice) place(sectors, size int) int {
	switch d.throw(40) {
	case 0:
		return 3 + d.throw(size)
	case 1:
		return []int{-1, sectors}[d.throw(2)]
	case 2:
		return d.throw(3)
	}
	return 3 + size + d.throw(sectors-3-size)
}

// pair is a cache, and a model that does the same.
type pair struct {
	d *disk.Disk
	w *wal.Wal
	c *cache.Cache
	m *model
}

func paired(t *testing.T, sectors, size, most int) *pair {
	t.Helper()
	d, _ := disk.New(sectors)
	wal.Format(d, 3, size)
	w, e := wal.Open(d, 3, size)
	if e != api.OK {
		t.Fatal(e)
	}
	m := &model{most: most}
	for range sectors {
		m.disk = append(m.disk, full(0))
	}
	return &pair{d, w, over(t, d, w, most), m}
}

// TestAgainstModel lets a cache and the model do the same at random.
func TestAgainstModel(t *testing.T) {
	const sectors, size = 30, 12
	for seed := range 200 {
		r := dice(seed)
		p := paired(t, sectors, size, 1+r.throw(9))
		for range 300 {
			steps := p.d.Steps()
			var got, want api.Errno
			var b, c []byte
			committed := false
			switch r.throw(24) {
			case 0, 1:
				got, want = p.c.Begin(), p.m.begin()
			case 2:
				got, want = p.c.Commit(), p.m.commit(3, size)
				committed = got == api.OK
			case 3:
				got, want = p.c.Abort(), p.m.abort()
			case 4, 5, 6, 7, 8, 9, 10, 11, 12, 13:
				i := r.place(sectors, size)
				if i >= 3 && i < 3+size {
					p.m.disk[i], _ = p.d.Read(i) // what the log has there is up to it
				}
				b, got = p.c.Read(i)
				c, want = p.m.read(i)
			default:
				i, b := r.place(sectors, size), r.sector()
				got, want = p.c.Write(i, b), p.m.write(i, b)
			}
			if got != want || !bytes.Equal(b, c) {
				t.Fatalf("seed %d: %v, %d; want %v, %d", seed, b, got, c, want)
			}
			if !committed && p.d.Steps() != steps {
				t.Fatalf("seed %d: a step of the disk without a Commit", seed)
			}
			p.same(t, size)
		}
	}
}

func (p *pair) same(t *testing.T, size int) {
	t.Helper()
	held(t, p.c, p.m.held()...)
	counts(t, p.c, len(p.m.pinned()), p.m.misses)
	if p.c.Pinned() == 0 && len(p.c.Held()) > p.m.most {
		t.Errorf("%d are cached, none is pinned", len(p.c.Held()))
	}
	if p.w.Groups() != p.m.groups || p.d.Waiting() != 0 {
		t.Errorf("%d groups, %d pending writes; want %d, 0", p.w.Groups(), p.d.Waiting(), p.m.groups)
	}
	for i, want := range p.m.disk {
		if b, _ := p.d.Read(i); (i < 3 || i >= 3+size) && !bytes.Equal(b, want) {
			t.Fatalf("sector %d: %v, want %v", i, b, want)
		}
	}
	if t.Failed() {
		t.FailNow()
	}
}
