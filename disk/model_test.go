package disk_test

import (
	"bytes"
	"testing"

	"estafette/api"
	"estafette/disk"
)

// model is the chapter taken word by word, without regard to cost: all sectors twice, and a list of writes.
type model struct {
	now, sure [][]byte
	places    []int
	bytes     [][]byte
	off       bool
	fuse      int
	steps     int
}

func plain(sectors int) *model {
	m := &model{fuse: -1}
	for range sectors {
		m.now = append(m.now, full(0))
		m.sure = append(m.sure, full(0))
	}
	return m
}

func (m *model) step() api.Errno {
	if m.fuse == 0 {
		m.off, m.fuse = true, -1
		return api.ErrPower
	}
	if m.fuse > 0 {
		m.fuse--
	}
	m.steps++
	return api.OK
}

func (m *model) write(i int, b []byte) api.Errno {
	switch {
	case m.off:
		return api.ErrPower
	case i < 0 || i >= len(m.now):
		return api.ErrPlace
	case len(b) != api.SectorSize:
		return api.ErrBytes
	}
	e := m.step()
	if e == api.OK {
		m.now[i] = b
		m.places = append(m.places, i)
		m.bytes = append(m.bytes, b)
	}
	return e
}

func (m *model) barrier() api.Errno {
	if m.off {
		return api.ErrPower
	}
	e := m.step()
	if e == api.OK {
		copy(m.sure, m.now)
		m.places, m.bytes = nil, nil
	}
	return e
}

func (m *model) boot(keep []int) {
	copy(m.now, m.sure)
	for k, i := range m.places {
		if len(keep) > 0 && keep[k%len(keep)]%2 != 0 {
			m.now[i] = m.bytes[k]
		}
	}
	copy(m.sure, m.now)
	m.places, m.bytes, m.off, m.fuse = nil, nil, false, -1
}

// dice throws the same numbers in each run.
type dice uint64

func (d *dice) throw(n int) int {
	*d = *d*6364136223846793005 + 1442695040888963407
	return int(uint64(*d) >> 33 % uint64(n))
}

func (d *dice) sector() []byte {
	b := full(byte(d.throw(256)))
	b[d.throw(len(b))] = byte(d.throw(256))
	if d.throw(16) == 0 {
		return b[:d.throw(len(b))]
	}
	return b
}

func (d *dice) keep() []int {
	keep := make([]int, d.throw(5))
	for i := range keep {
		keep[i] = d.throw(9) - 4
	}
	return keep
}

// TestAgainstModel lets a disk and the model do the same at random, now and then going on with a clone.
func TestAgainstModel(t *testing.T) {
	for seed := range 60 {
		r := dice(seed)
		sectors := 1 + r.throw(7)
		d, m := fresh(t, sectors), plain(sectors)
		for range 400 {
			var got, want api.Errno
			switch r.throw(12) {
			case 0:
				keep := r.keep()
				d.Boot(keep)
				m.boot(keep)
			case 1:
				n := r.throw(9) - 2
				d.Fuse(n)
				if !m.off {
					m.fuse = max(n, -1)
				}
			case 2:
				left := d
				d = d.Clone()
				left.Write(0, full(255))
				left.Barrier()
				left.Boot(nil)
			case 3, 4:
				got, want = d.Barrier(), m.barrier()
			default:
				i, b := r.throw(sectors+2)-1, r.sector()
				got, want = d.Write(i, b), m.write(i, b)
			}
			if got != want {
				t.Fatalf("seed %d: error %d, want %d", seed, got, want)
			}
			same(t, d, m)
		}
	}
}

func same(t *testing.T, d *disk.Disk, m *model) {
	t.Helper()
	state(t, d, !m.off, m.steps, len(m.places))
	for i, want := range m.now {
		b, e := d.Read(i)
		if m.off {
			if b != nil || e != api.ErrPower {
				t.Fatalf("Read(%d) while off: %v, %d", i, b, e)
			}
		} else if e != api.OK || !bytes.Equal(b, want) {
			t.Fatalf("Read(%d): %v, %d; want %v", i, b, e, want)
		}
	}
}
