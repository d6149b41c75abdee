// Package disk is layer 1: a simulated disk with write barriers: see shared/doc/01-disk.md.
package disk

import (
	"maps"
	"slices"

	"estafette/api"
)

// noFuse stands where no fuse is set; so does every other number below 0.
const noFuse = -1

type sector [api.SectorSize]byte

// write is a pending write. It keeps its own bytes, since Boot may execute it again after the sector was written once more.
type write struct {
	place int
	bytes sector
}

// Disk is a disk of sectors whose power may fail ahead of any step.
type Disk struct {
	sectors int
	on      bool
	fuse    int
	steps   int
	now     map[int]sector // a sector that was never written is missing, and so reads as zeros
	sure    map[int]sector // durable contents, only of the sectors with pending writes: elsewhere now is durable
	pending []write        // in the order of the writes: Boot counts them
}

// New makes a disk whose sectors contain zeros.
func New(sectors int) (*Disk, api.Errno) {
	if sectors < 1 || sectors > api.MaxSectors {
		return nil, api.ErrArg
	}
	d := &Disk{sectors: sectors, on: true, fuse: noFuse, now: map[int]sector{}, sure: map[int]sector{}}
	return d, api.OK
}

// Len returns the number of sectors, also while the power is off.
func (d *Disk) Len() int { return d.sectors }

// Read returns what was written to sector i last, durable or not.
func (d *Disk) Read(i int) ([]byte, api.Errno) {
	if e := d.reach(i); e != api.OK {
		return nil, e
	}
	s := d.now[i]
	return s[:], api.OK
}

// Write is a step that writes sector i; the write is pending till the next Barrier or Boot.
func (d *Disk) Write(i int, b []byte) api.Errno {
	if e := d.reach(i); e != api.OK {
		return e
	}
	if len(b) != api.SectorSize {
		return api.ErrBytes
	}
	if e := d.step(); e != api.OK {
		return e
	}
	d.keepSure(i)
	var s sector
	copy(s[:], b)
	d.now[i] = s
	d.pending = append(d.pending, write{i, s})
	return api.OK
}

// Barrier is a step that makes all pending writes durable.
func (d *Disk) Barrier() api.Errno {
	if !d.on {
		return api.ErrPower
	}
	if e := d.step(); e != api.OK {
		return e
	}
	d.settle()
	return api.OK
}

// Waiting returns the number of pending writes.
func (d *Disk) Waiting() int { return len(d.pending) }

// Fuse lets the power fail after n more steps; a negative n removes the fuse.
func (d *Disk) Fuse(n int) {
	if d.on {
		d.fuse = n
	}
}

// On reports whether the power is on.
func (d *Disk) On() bool { return d.on }

// Boot turns the power on; of the pending writes those survive that keep selects.
func (d *Disk) Boot(keep []int) {
	maps.Copy(d.now, d.sure)
	for k, w := range d.pending {
		if survives(keep, k) {
			d.now[w.place] = w.bytes
		}
	}
	d.settle()
	d.on, d.fuse = true, noFuse
}

// Steps returns the number of steps that were executed.
func (d *Disk) Steps() int { return d.steps }

// Clone returns an independent copy.
func (d *Disk) Clone() *Disk {
	c := *d
	c.now = maps.Clone(d.now)
	c.sure = maps.Clone(d.sure)
	c.pending = slices.Clone(d.pending)
	return &c
}

// reach holds the checks that Read and Write share, in the order in which their errors count.
func (d *Disk) reach(i int) api.Errno {
	if !d.on {
		return api.ErrPower
	}
	if i < 0 || i >= d.sectors {
		return api.ErrPlace
	}
	return api.OK
}

// step comes ahead of a step's effect: with a fuse of 0 the step must leave no trace but the loss of power.
func (d *Disk) step() api.Errno {
	if d.fuse == 0 {
		d.on, d.fuse = false, noFuse
		return api.ErrPower
	}
	if d.fuse > 0 {
		d.fuse--
	}
	d.steps++
	return api.OK
}

// keepSure must come ahead of each write: only the first one after a barrier still finds the durable contents in now.
func (d *Disk) keepSure(i int) {
	if _, kept := d.sure[i]; !kept {
		d.sure[i] = d.now[i]
	}
}

// settle makes what can be read durable.
func (d *Disk) settle() {
	d.sure = map[int]sector{}
	d.pending = nil
}

// survives tells whether pending write number k is executed again by a Boot with keep.
func survives(keep []int, k int) bool {
	return len(keep) > 0 && keep[k%len(keep)]%2 != 0
}
