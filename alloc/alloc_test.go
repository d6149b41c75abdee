package alloc_test

import (
	"bytes"
	"math"
	"slices"
	"testing"

	"estafette/alloc"
	"estafette/api"
	"estafette/cache"
	"estafette/disk"
	"estafette/wal"
)

const inodeSize = 32

// full is so many bytes of one kind.
func full(c byte, n int) []byte { return bytes.Repeat([]byte{c}, n) }

func block(c byte) []byte { return full(c, api.SectorSize) }

func inode(c byte) []byte { return full(c, inodeSize) }

func fresh(t *testing.T, sectors int) *disk.Disk {
	t.Helper()
	d, e := disk.New(sectors)
	if e != api.OK {
		t.Fatal(e)
	}
	return d
}

// littered is a disk whose sectors are full of something.
func littered(t *testing.T, sectors int, c byte) *disk.Disk {
	t.Helper()
	d := fresh(t, sectors)
	for i := range sectors {
		d.Write(i, block(c))
	}
	d.Barrier()
	return d
}

func format(t *testing.T, d *disk.Disk) {
	t.Helper()
	result(t, "Format", alloc.Format(d), api.OK)
}

func open(t *testing.T, d *disk.Disk) *alloc.Space {
	t.Helper()
	s, e := alloc.Open(d)
	if e != api.OK || s == nil {
		t.Fatalf("Open: %v, %d", s, e)
	}
	return s
}

func noSpace(t *testing.T, d *disk.Disk, want api.Errno) {
	t.Helper()
	steps, was := d.Steps(), image(d)
	if s, e := alloc.Open(d); s != nil || e != want {
		t.Errorf("Open: %v, %d; want %d", s, e, want)
	}
	untouched(t, d, steps, was)
}

func space(t *testing.T, sectors int) (*disk.Disk, *alloc.Space) {
	t.Helper()
	d := fresh(t, sectors)
	format(t, d)
	return d, open(t, d)
}

func result(t *testing.T, call string, got, want api.Errno) {
	t.Helper()
	if got != want {
		t.Errorf("%s: %d, want %d", call, got, want)
	}
}

func begin(t *testing.T, s *alloc.Space) {
	t.Helper()
	result(t, "Begin", s.Begin(), api.OK)
}

func commit(t *testing.T, s *alloc.Space) {
	t.Helper()
	result(t, "Commit", s.Commit(), api.OK)
}

func take(t *testing.T, s *alloc.Space, want ...int) {
	t.Helper()
	for _, w := range want {
		if n, e := s.Alloc(); n != w || e != api.OK {
			t.Fatalf("Alloc: %d, %d; want %d", n, e, w)
		}
	}
}

// span is the numbers from one on, so many.
func span(from, many int) []int {
	var l []int
	for i := range many {
		l = append(l, from+i)
	}
	return l
}

func noBlock(t *testing.T, s *alloc.Space, want api.Errno) {
	t.Helper()
	if n, e := s.Alloc(); n != 0 || e != want {
		t.Errorf("Alloc: %d, %d; want %d", n, e, want)
	}
}

func read(t *testing.T, s *alloc.Space, n int, want []byte) {
	t.Helper()
	if b, e := s.Read(n); e != api.OK || !bytes.Equal(b, want) {
		t.Errorf("Read(%d): %v, %d; want %v", n, b, e, want)
	}
}

func readFails(t *testing.T, s *alloc.Space, n int, want api.Errno) {
	t.Helper()
	if b, e := s.Read(n); b != nil || e != want {
		t.Errorf("Read(%d): %v, %d; want %d", n, b, e, want)
	}
}

func readInode(t *testing.T, s *alloc.Space, n int, want []byte) {
	t.Helper()
	if b, e := s.Inode(n); e != api.OK || !bytes.Equal(b, want) {
		t.Errorf("Inode(%d): %v, %d; want %v", n, b, e, want)
	}
}

func next(t *testing.T, s *alloc.Space, want int, code api.Errno) {
	t.Helper()
	if n, e := s.NextInode(); n != want || e != code {
		t.Errorf("NextInode: %d, %d; want %d, %d", n, e, want, code)
	}
}

func counts(t *testing.T, s *alloc.Space, blocks, inodes, groups int) {
	t.Helper()
	if s.Blocks() != blocks || s.Inodes() != inodes || s.Groups() != groups {
		t.Errorf("Blocks %d, Inodes %d, Groups %d; want %d, %d, %d", s.Blocks(), s.Inodes(), s.Groups(), blocks, inodes, groups)
	}
}

// empty tells that a space is as Format makes it.
func empty(t *testing.T, s *alloc.Space, sectors int) {
	t.Helper()
	first := alloc.First(sectors)
	counts(t, s, sectors-first, api.Inodes, 0)
	for n := first; n < sectors; n++ {
		readFails(t, s, n, api.ErrFree)
	}
	for n := range api.Inodes {
		readInode(t, s, n, inode(0))
	}
	next(t, s, 0, api.OK)
	closed(t, s)
}

// closed tells that no transaction is open, and leaves it so.
func closed(t *testing.T, s *alloc.Space) {
	t.Helper()
	blocks, inodes, groups := s.Blocks(), s.Inodes(), s.Groups()
	noBlock(t, s, api.ErrOpen)
	result(t, "Commit while none is open", s.Commit(), api.ErrOpen)
	result(t, "Abort while none is open", s.Abort(), api.ErrOpen)
	for _, n := range []int{-1, 0, 255, 256, 750, 751, 760, math.MaxInt} {
		result(t, "Free while none is open", s.Free(n), api.ErrOpen)
		result(t, "Write while none is open", s.Write(n, block(9)), api.ErrOpen)
		result(t, "Write while none is open", s.Write(n, nil), api.ErrOpen)
		result(t, "SetInode while none is open", s.SetInode(n, inode(9)), api.ErrOpen)
		result(t, "SetInode while none is open", s.SetInode(n, nil), api.ErrOpen)
	}
	counts(t, s, blocks, inodes, groups)
}

// image is what can be read of a disk, a text a sector.
func image(d *disk.Disk) []string {
	var l []string
	for i := range d.Len() {
		b, _ := d.Read(i)
		l = append(l, string(b))
	}
	return l
}

func untouched(t *testing.T, d *disk.Disk, steps int, was []string) {
	t.Helper()
	if d.Steps() != steps || d.On() && !slices.Equal(image(d), was) {
		t.Errorf("%d steps, then %d; or other bytes", steps, d.Steps())
	}
}

// changed is which sectors beside the log's are not as they were.
func changed(d *disk.Disk, was []string) []int {
	var l []int
	for i, now := range image(d) {
		if now != was[i] && (i < 1 || i > api.WalSectors) {
			l = append(l, i)
		}
	}
	return l
}

// dark turns a disk's power off.
func dark(d *disk.Disk) {
	d.Fuse(0)
	d.Barrier()
}

// TestExamples is the chapter's table.
func TestExamples(t *testing.T) {
	for sectors, want := range map[int]int{1023: 0, 1024: 751, 8192: 765} {
		if got := alloc.First(sectors); got != want {
			t.Errorf("First(%d): %d, want %d", sectors, got, want)
		}
	}
	_, s := space(t, 1024)
	counts(t, s, 273, 256, 0)
	noBlock(t, s, api.ErrOpen)
	begin(t, s)
	take(t, s, 751, 752)
	result(t, "Free(751)", s.Free(751), api.OK)
	take(t, s, 751)
	counts(t, s, 271, 256, 0)
	result(t, "Free(750)", s.Free(750), api.ErrBlock)
	result(t, "Free(760)", s.Free(760), api.ErrFree)
	readFails(t, s, 760, api.ErrFree)
	result(t, "Write(751)", s.Write(751, make([]byte, 3)), api.ErrBytes)
}

func TestP4_1First(t *testing.T) {
	for sectors := -600; sectors <= 9000; sectors++ {
		want := 0
		if sectors >= api.MinSectors && sectors <= api.MaxSectors {
			for want = 749; (want-749)*512 < sectors; want++ {
			}
		}
		if got := alloc.First(sectors); got != want {
			t.Errorf("First(%d): %d, want %d", sectors, got, want)
		}
	}
	for _, sectors := range []int{math.MinInt, math.MaxInt} {
		if got := alloc.First(sectors); got != 0 {
			t.Errorf("First(%d): %d", sectors, got)
		}
	}
}

func TestP4_2TooSmall(t *testing.T) {
	for _, sectors := range []int{1, 640, 1023} {
		d := littered(t, sectors, 7)
		steps, was := d.Steps(), image(d)
		result(t, "Format", alloc.Format(d), api.ErrArg)
		noSpace(t, d, api.ErrArg)
		untouched(t, d, steps, was)
		dark(d)
		result(t, "Format without power", alloc.Format(d), api.ErrArg)
		noSpace(t, d, api.ErrArg)
	}
}

func TestP4_2Format(t *testing.T) {
	for _, sectors := range []int{1024, 1025, 1535, 1536, 1537, 2048, 8191, 8192} {
		for _, c := range []byte{0, 1, 255} {
			d := littered(t, sectors, c)
			format(t, d)
			if d.Waiting() != 0 {
				t.Error("Format left pending writes")
			}
			empty(t, open(t, d), sectors)
			d.Boot(nil)
			empty(t, open(t, d), sectors)
		}
	}
}

// TestP4_2FormatAgain makes a new space where one is, which is gone wholly.
func TestP4_2FormatAgain(t *testing.T) {
	d, s := space(t, 1024)
	begin(t, s)
	take(t, s, span(751, 273)...)
	for n := range api.Inodes {
		result(t, "SetInode", s.SetInode(n, inode(255)), api.OK)
	}
	commit(t, s)
	begin(t, s)
	result(t, "Free", s.Free(800), api.OK)
	commit(t, s)
	counts(t, open(t, d), 1, 0, 2)
	format(t, d)
	empty(t, open(t, d), 1024)
	s = open(t, d)
	begin(t, s)
	take(t, s, 751)
	read(t, s, 751, block(0))
}

func TestP4_2FormatWithoutPower(t *testing.T) {
	d, _ := space(t, 1024)
	dark(d)
	result(t, "Format", alloc.Format(d), api.ErrPower)
	noSpace(t, d, api.ErrPower)
	d.Boot(nil)
	empty(t, open(t, d), 1024)
}

func TestP4_2OpenFindsNoSpace(t *testing.T) {
	for c := range 256 {
		noSpace(t, littered(t, 1024, byte(c)), api.ErrCorrupt)
	}
	d := fresh(t, 2048)
	noSpace(t, d, api.ErrCorrupt)
	wal.Format(d, 1, api.WalSectors)
	noSpace(t, d, api.ErrCorrupt)
}

// TestP4_2OpenOfAnotherNumber lays the sectors of a space onto disks of other lengths.
func TestP4_2OpenOfAnotherNumber(t *testing.T) {
	for _, from := range []int{1024, 1100, 1280, 8192} {
		made, _ := space(t, from)
		was := image(made)
		for _, to := range []int{1024, 1025, 1100, 1280, 1536, 1537, 8191, 8192} {
			d := fresh(t, to)
			for i := range min(from, to) {
				d.Write(i, []byte(was[i]))
			}
			if to == from {
				empty(t, open(t, d), to)
			} else {
				noSpace(t, d, api.ErrCorrupt)
			}
		}
	}
}

// TestP4_2OpenWithoutAPart: neither a description without a log is a space, nor a spoilt description beside a log.
func TestP4_2OpenWithoutAPart(t *testing.T) {
	d, _ := space(t, 1024)
	was := image(d)
	for at := range api.SectorSize {
		for _, c := range []byte{1, 128, 255} {
			b := []byte(was[0])
			b[at] ^= c
			d.Write(0, b)
			noSpace(t, d, api.ErrCorrupt)
		}
	}
	d.Write(0, []byte(was[0]))
	open(t, d)
	d.Write(1, block(0))
	noSpace(t, d, api.ErrCorrupt)
}

// TestP4_2OpenTwice: what is open in a space that was opened earlier does not count.
func TestP4_2OpenTwice(t *testing.T) {
	d, s := space(t, 1024)
	steps, was := d.Steps(), image(d)
	begin(t, s)
	take(t, s, 751)
	s.SetInode(0, inode(1))
	untouched(t, d, steps, was)
	s = open(t, d)
	untouched(t, d, steps, was)
	empty(t, s, 1024)
	begin(t, s)
}

// TestRegions holds the positions of the regions: a change is to be seen in its own region, and in no other.
func TestRegions(t *testing.T) {
	for _, sectors := range []int{1024, 1537, 8192} {
		d, s := space(t, sectors)
		if w, e := wal.Open(d, 1, 620); e != api.OK || w.Groups() != 0 {
			t.Error("no log at 1", e)
		}
		s = open(t, d)
		first := alloc.First(sectors)
		for _, n := range []int{0, 1, 2, 3, 31, 128, 253, 254, 255} {
			was := image(d)
			begin(t, s)
			s.SetInode(n, inode(7))
			commit(t, s)
			if got := changed(d, was); !slices.Equal(got, []int{first - 128 + n/2}) {
				t.Errorf("inode %d is in %v", n, got)
			}
		}
		for n := first; n < min(sectors, first+300); n++ {
			begin(t, s)
			take(t, s, n)
			commit(t, s)
		}
		for _, n := range []int{first, first + 1, 1023, 1024, 1050} {
			if n < sectors {
				was := image(d)
				begin(t, s)
				s.Write(n, block(1))
				s.Free(n)
				commit(t, s)
				if got := changed(d, was); !slices.Equal(got, []int{621 + n/512, n}) {
					t.Errorf("block %d is in %v", n, got)
				}
			}
		}
	}
}

func TestP4_3BeginAndEnd(t *testing.T) {
	d, s := space(t, 1024)
	closed(t, s)
	for k, end := range []func() api.Errno{s.Commit, s.Abort, s.Abort, s.Commit, s.Commit} {
		steps, was := d.Steps(), image(d)
		begin(t, s)
		result(t, "Begin while one is open", s.Begin(), api.ErrOpen)
		take(t, s, []int{751, 752, 752, 752, 753}[k])
		result(t, "Begin while one is open", s.Begin(), api.ErrOpen)
		untouched(t, d, steps, was)
		result(t, "the end", end(), api.OK)
		closed(t, s)
	}
	counts(t, s, 270, 256, 3)
	counts(t, open(t, d), 270, 256, 3)
}

func TestP4_3Groups(t *testing.T) {
	d, s := space(t, 1024)
	for i := range 20 {
		begin(t, s)
		commit(t, s)
		begin(t, s)
		result(t, "Abort", s.Abort(), api.OK)
		begin(t, s)
		result(t, "SetInode", s.SetInode(3, inode(byte(i))), api.OK)
		counts(t, s, 273, []int{256, 255}[min(i, 1)], 2*i+1)
		commit(t, s)
		if s.Groups() != 2*i+2 {
			t.Errorf("Groups %d, want %d", s.Groups(), 2*i+2)
		}
		if i%4 == 0 {
			s = open(t, d)
		}
	}
	d.Boot(nil)
	counts(t, open(t, d), 273, 255, 40)
}

// TestP4_3Room: the blocks 765 to 1362 stand in two sectors of the map, and so make, with them, the greatest transaction.
func TestP4_3Room(t *testing.T) {
	d, s := space(t, 8192)
	begin(t, s)
	take(t, s, span(765, 598)...)
	commit(t, s)
	for i := range 598 {
		read(t, s, 765+i, block(0))
	}
	counts(t, open(t, d), 8192-765-598, 256, 1)
}

func TestP4_3TooMuch(t *testing.T) {
	for _, more := range []func(*alloc.Space){
		func(s *alloc.Space) { s.Alloc() },
		func(s *alloc.Space) { s.SetInode(255, inode(3)) },
		func(s *alloc.Space) { s.Alloc(); s.Alloc(); s.SetInode(0, inode(1)) },
	} {
		d, s := space(t, 8192)
		steps, was := d.Steps(), image(d)
		begin(t, s)
		take(t, s, span(765, 598)...)
		more(s)
		blocks, inodes := s.Blocks(), s.Inodes()
		for range 2 {
			result(t, "Commit of too much", s.Commit(), api.ErrGroup)
			result(t, "Begin behind it", s.Begin(), api.ErrOpen)
			counts(t, s, blocks, inodes, 0)
			read(t, s, 765, block(0))
			untouched(t, d, steps, was)
		}
		result(t, "Write behind it", s.Write(765, block(1)), api.OK)
		read(t, s, 765, block(1))
		result(t, "Abort", s.Abort(), api.OK)
		empty(t, s, 8192)
		begin(t, s)
		take(t, s, 765)
		commit(t, s)
		counts(t, s, 8192-765-1, 256, 1)
	}
}

func TestP4_3Abort(t *testing.T) {
	d, s := space(t, 1024)
	begin(t, s)
	take(t, s, 751, 752, 753)
	s.Write(752, block(2))
	s.SetInode(4, inode(4))
	commit(t, s)
	steps, was := d.Steps(), image(d)
	begin(t, s)
	take(t, s, 754)
	result(t, "Free", s.Free(751), api.OK)
	result(t, "Write", s.Write(752, block(9)), api.OK)
	result(t, "Write", s.Write(754, block(9)), api.OK)
	result(t, "SetInode", s.SetInode(4, inode(0)), api.OK)
	result(t, "SetInode", s.SetInode(5, inode(9)), api.OK)
	counts(t, s, 270, 255, 1)
	result(t, "Abort", s.Abort(), api.OK)
	untouched(t, d, steps, was)
	counts(t, s, 270, 255, 1)
	read(t, s, 751, block(0))
	read(t, s, 752, block(2))
	readFails(t, s, 754, api.ErrFree)
	readInode(t, s, 4, inode(4))
	readInode(t, s, 5, inode(0))
	begin(t, s)
	take(t, s, 754)
	read(t, s, 754, block(0))
}

func TestP4_4AllocAll(t *testing.T) {
	for _, sectors := range []int{1024, 1025, 1030, 1536, 2100} {
		d, s := space(t, sectors)
		first := alloc.First(sectors)
		for n := first; n < sectors; n += 500 {
			many := min(500, sectors-n)
			begin(t, s)
			take(t, s, span(n, many)...)
			counts(t, s, sectors-n-many, 256, (n-first)/500)
			commit(t, s)
		}
		begin(t, s)
		for range 2 {
			noBlock(t, s, api.ErrFull)
			counts(t, s, 0, 256, s.Groups())
		}
		for _, n := range []int{sectors - 1, first} {
			result(t, "Free", s.Free(n), api.OK)
			take(t, s, n)
			noBlock(t, s, api.ErrFull)
		}
		commit(t, s)
		counts(t, open(t, d), 0, 256, s.Groups())
	}
}

// TestP4_4AllocZeros: a block contains zeros when it is taken, whatever was in it, in this transaction or in another.
func TestP4_4AllocZeros(t *testing.T) {
	d := littered(t, 1024, 5)
	format(t, d)
	s := open(t, d)
	begin(t, s)
	take(t, s, 751, 752)
	read(t, s, 751, block(0))
	s.Write(751, block(6))
	s.Write(752, block(6))
	s.Free(751)
	take(t, s, 751)
	read(t, s, 751, block(0))
	commit(t, s)
	begin(t, s)
	s.Free(752)
	commit(t, s)
	begin(t, s)
	take(t, s, 752)
	read(t, s, 752, block(0))
	commit(t, s)
	s = open(t, d)
	read(t, s, 751, block(0))
	read(t, s, 752, block(0))
}

func TestP4_4Free(t *testing.T) {
	d, s := space(t, 1024)
	begin(t, s)
	take(t, s, span(751, 10)...)
	commit(t, s)
	begin(t, s)
	for k, n := range []int{760, 755, 753, 757} {
		result(t, "Free", s.Free(n), api.OK)
		result(t, "Free of a free one", s.Free(n), api.ErrFree)
		readFails(t, s, n, api.ErrFree)
		result(t, "Write of a free one", s.Write(n, block(1)), api.ErrFree)
		counts(t, s, 263+k+1, 256, 1)
	}
	commit(t, s)
	counts(t, open(t, d), 267, 256, 2)
	s = open(t, d)
	begin(t, s)
	take(t, s, 753, 755, 757, 760, 761)
}

func TestP4_4NoBlock(t *testing.T) {
	for _, sectors := range []int{1024, 1537, 8192} {
		d, s := space(t, sectors)
		first := alloc.First(sectors)
		begin(t, s)
		take(t, s, first)
		commit(t, s)
		wrong := []int{math.MinInt, -first, -1, 0, 1, 620, 621, 622, first - 128, first - 1, sectors, sectors + 1, 8192, math.MaxInt}
		for _, n := range wrong {
			readFails(t, s, n, api.ErrBlock)
		}
		begin(t, s)
		steps, was := d.Steps(), image(d)
		for _, n := range wrong {
			readFails(t, s, n, api.ErrBlock)
			result(t, "Free", s.Free(n), api.ErrBlock)
			result(t, "Write", s.Write(n, block(1)), api.ErrBlock)
			result(t, "Write", s.Write(n, nil), api.ErrBlock)
		}
		for _, n := range []int{first + 1, sectors - 1} {
			readFails(t, s, n, api.ErrFree)
			result(t, "Free", s.Free(n), api.ErrFree)
			result(t, "Write", s.Write(n, block(1)), api.ErrFree)
			result(t, "Write", s.Write(n, nil), api.ErrFree)
		}
		for _, b := range [][]byte{nil, {}, block(1)[:63], full(1, 65), make([]byte, 63, 64)} {
			result(t, "Write", s.Write(first, b), api.ErrBytes)
		}
		untouched(t, d, steps, was)
		read(t, s, first, block(0))
		commit(t, s)
		if got := changed(d, was); got != nil {
			t.Errorf("errors changed %v", got)
		}
		counts(t, s, sectors-first-1, 256, 2)
	}
}

func TestP4_4ReadAndWrite(t *testing.T) {
	d, s := space(t, 1024)
	begin(t, s)
	take(t, s, 751, 752, 753)
	b := make([]byte, api.SectorSize)
	for i := range b {
		b[i] = byte(200 + i)
	}
	result(t, "Write", s.Write(752, b), api.OK)
	check := func() {
		t.Helper()
		read(t, s, 751, block(0))
		read(t, s, 752, b)
		read(t, s, 753, block(0))
	}
	check()
	commit(t, s)
	check()
	s = open(t, d)
	check()
	if got, _ := d.Read(752); !bytes.Equal(got, b) {
		t.Error("a block is its sector", got)
	}
	begin(t, s)
	slices.Reverse(b)
	result(t, "Write", s.Write(752, b), api.OK)
	check()
	counts(t, s, 270, 256, 1)
}

func TestP4_4ArgumentsAndResultsAreNotKept(t *testing.T) {
	_, s := space(t, 1024)
	begin(t, s)
	take(t, s, 751)
	b := append(make([]byte, 0, 100), block(7)...)
	b[:65][64] = 42
	result(t, "Write", s.Write(751, b), api.OK)
	x := append(make([]byte, 0, 100), inode(8)...)
	x[:33][32] = 43
	result(t, "SetInode", s.SetInode(6, x), api.OK)
	if !bytes.Equal(b, block(7)) || b[:65][64] != 42 || !bytes.Equal(x, inode(8)) || x[:33][32] != 43 {
		t.Error("an argument was changed")
	}
	b[0], x[0] = 1, 1
	for range 2 {
		got, _ := s.Read(751)
		got[1] = 99
		_ = append(got[:1], 98)
		node, _ := s.Inode(6)
		node[1] = 99
		_ = append(node, full(97, 32)...)
	}
	read(t, s, 751, block(7))
	readInode(t, s, 6, inode(8))
	readInode(t, s, 7, inode(0))
	commit(t, s)
	read(t, s, 751, block(7))
	readInode(t, s, 6, inode(8))
}

func TestP4_5Inodes(t *testing.T) {
	d, s := space(t, 1100)
	begin(t, s)
	for n := range api.Inodes {
		next(t, s, n, api.OK)
		b := inode(byte(n))
		b[0], b[31] = 1, byte(n+1)
		result(t, "SetInode", s.SetInode(n, b), api.OK)
		counts(t, s, 1100-752, 255-n, 0)
	}
	for range 2 {
		next(t, s, 0, api.ErrNodes)
	}
	commit(t, s)
	s = open(t, d)
	for n := range api.Inodes {
		b := inode(byte(n))
		b[0], b[31] = 1, byte(n+1)
		readInode(t, s, n, b)
	}
	next(t, s, 0, api.ErrNodes)
	counts(t, s, 1100-752, 0, 1)
	begin(t, s)
	for k, n := range []int{255, 100, 101, 254, 0} {
		s.SetInode(n, inode(0))
		next(t, s, []int{255, 100, 100, 100, 0}[k], api.OK)
		counts(t, s, 1100-752, k+1, 1)
	}
}

// TestP4_5FirstByte: an inode is free or not by its first byte alone.
func TestP4_5FirstByte(t *testing.T) {
	_, s := space(t, 1024)
	begin(t, s)
	b := inode(255)
	b[0] = 0
	result(t, "SetInode", s.SetInode(0, b), api.OK)
	readInode(t, s, 0, b)
	next(t, s, 0, api.OK)
	counts(t, s, 273, 256, 0)
	for _, c := range []byte{1, 2, 128, 255} {
		b = inode(0)
		b[0] = c
		result(t, "SetInode", s.SetInode(0, b), api.OK)
		next(t, s, 1, api.OK)
		counts(t, s, 273, 255, 0)
	}
}

func TestP4_5NoInode(t *testing.T) {
	d, s := space(t, 1024)
	begin(t, s)
	result(t, "SetInode", s.SetInode(255, inode(5)), api.OK)
	steps, was := d.Steps(), image(d)
	for _, n := range []int{math.MinInt, -2, -1, 256, 257, 751, math.MaxInt} {
		if b, e := s.Inode(n); b != nil || e != api.ErrBlock {
			t.Errorf("Inode(%d): %v, %d", n, b, e)
		}
		result(t, "SetInode", s.SetInode(n, inode(1)), api.ErrBlock)
		result(t, "SetInode", s.SetInode(n, nil), api.ErrBlock)
	}
	for _, n := range []int{0, 1, 255} {
		for _, b := range [][]byte{nil, {}, inode(1)[:31], full(1, 33), block(1), make([]byte, 31, 32)} {
			result(t, "SetInode", s.SetInode(n, b), api.ErrBytes)
		}
	}
	readInode(t, s, 0, inode(0))
	readInode(t, s, 255, inode(5))
	untouched(t, d, steps, was)
	commit(t, s)
	if got := changed(d, was); !slices.Equal(got, []int{750}) {
		t.Errorf("changed %v", got)
	}
}

// TestNothingButCommitWrites: of all methods, only Commit does steps of the disk.
func TestNothingButCommitWrites(t *testing.T) {
	d, s := space(t, 1024)
	steps, was := d.Steps(), image(d)
	d.Fuse(0)
	begin(t, s)
	take(t, s, 751, 752)
	s.Write(751, block(1))
	read(t, s, 751, block(1))
	s.Free(752)
	s.SetInode(9, inode(9))
	readInode(t, s, 9, inode(9))
	next(t, s, 0, api.OK)
	counts(t, s, 272, 255, 0)
	result(t, "Abort", s.Abort(), api.OK)
	begin(t, s)
	untouched(t, d, steps, was)
	result(t, "Commit", s.Commit(), api.ErrPower)
}

// TestWithoutPower: the calls that need the disk say so, or return 0.
func TestWithoutPower(t *testing.T) {
	d, _ := space(t, 1024)
	s := open(t, d)
	dark(d)
	begin(t, s)
	noBlock(t, s, api.ErrPower)
	readFails(t, s, 751, api.ErrPower)
	readFails(t, s, 750, api.ErrBlock)
	result(t, "Free", s.Free(751), api.ErrPower)
	result(t, "Write", s.Write(751, block(1)), api.ErrPower)
	result(t, "SetInode", s.SetInode(0, inode(1)), api.ErrPower)
	if b, e := s.Inode(0); b != nil || e != api.ErrPower {
		t.Error(b, e)
	}
	next(t, s, 0, api.ErrPower)
	counts(t, s, 0, 0, 0)
	result(t, "Commit", s.Commit(), api.ErrPower)
	d.Boot(nil)
	empty(t, open(t, d), 1024)
}

func TestZeroSpace(t *testing.T) {
	s := new(alloc.Space)
	result(t, "Begin", s.Begin(), api.ErrOpen)
	closed(t, s)
	counts(t, s, 0, 0, 0)
	readFails(t, s, 0, api.ErrBlock)
	readFails(t, s, 751, api.ErrBlock)
	if b, e := s.Inode(0); b != nil || e == api.OK {
		t.Error(b, e)
	}
	if n, e := s.NextInode(); n != 0 || e == api.OK {
		t.Error(n, e)
	}
}

// TestOverTheCache holds a transaction against one of the cache's: as many steps of the disk, and the same sectors.
func TestOverTheCache(t *testing.T) {
	d, s := space(t, 1024)
	twin := d.Clone()
	was := image(d)
	begin(t, s)
	take(t, s, 751, 752, 753)
	s.Write(752, block(3))
	s.SetInode(6, inode(6))
	s.SetInode(7, inode(7))
	commit(t, s)
	w, _ := wal.Open(twin, 1, api.WalSectors)
	c, _ := cache.New(twin, w, 10)
	c.Begin()
	for _, i := range append(changed(d, was), 751, 753) {
		b, _ := d.Read(i)
		c.Write(i, b)
	}
	result(t, "Commit of the cache", c.Commit(), api.OK)
	if d.Steps() != twin.Steps() || !slices.Equal(image(d), image(twin)) {
		t.Errorf("%d steps, the cache %d; or other bytes", d.Steps(), twin.Steps())
	}
}
