package dirfs

import (
	"bytes"

	"estafette/api"
)

// An entry is a name, filled up with zeros, and the number of an inode.
// The entries of a directory stand in no order: a new one goes behind the others, and the last one takes the place of one that leaves.
// So whatever acts Do takes, a transaction has room for them: an act writes at most 4 sectors of directories, all files' bytes take at most 240, the inodes 128, and the map of the blocks 16.
const (
	entrySize = 32
	inodeAt   = api.MaxName
)

type entry struct {
	name string
	node int
}

// spot is a directory, and a name that it has or might have.
type spot struct {
	dir  int
	name string
}

func (x entry) bytes() []byte {
	var b [entrySize]byte
	copy(b[:inodeAt], x.name)
	b[inodeAt] = byte(x.node)
	return b[:]
}

func parseEntry(b []byte) entry {
	return entry{string(bytes.TrimRight(b[:inodeAt], "\x00")), int(b[inodeAt])}
}

// entries reads a directory.
func (f *FS) entries(dir int) []entry {
	f.demand(dir, api.KindDir)
	b := f.bytes(dir)
	l := make([]entry, len(b)/entrySize)
	for i := range l {
		l[i] = parseEntry(b[i*entrySize : (i+1)*entrySize])
	}
	return l
}

func namesOf(l []entry) []string {
	names := make([]string, len(l))
	for i, x := range l {
		names[i] = x.name
	}
	return names
}

// find returns the inode that a name stands for; false: the directory does not have the name.
func (f *FS) find(s spot) (int, bool) {
	for _, x := range f.entries(s.dir) {
		if x.name == s.name {
			return x.node, true
		}
	}
	return 0, false
}

// need finds a name that the directory must have.
func (f *FS) need(s spot) int {
	n, is := f.find(s)
	refuse(!is, api.ErrNoEntry)
	return n
}

// vacant refuses a name that is there, or for which the directory has no place.
func (f *FS) vacant(s spot) {
	_, is := f.find(s)
	refuse(is, api.ErrThere)
	refuse(f.stat(s.dir).Size >= api.MaxEntries, api.ErrNames)
}

// enter gives inode n a name, which must be vacant.
func (f *FS) enter(s spot, n int) {
	end := f.stat(s.dir).Size * entrySize
	must(f.files().Write(s.dir, end, entry{s.name, n}.bytes()))
}

// leave removes a name from its directory.
func (f *FS) leave(s spot) {
	l := f.entries(s.dir)
	last := len(l) - 1
	for i, x := range l[:last] {
		if x.name == s.name {
			must(f.files().Write(s.dir, i*entrySize, l[last].bytes()))
		}
	}
	must(f.files().Cut(s.dir, last*entrySize))
}
