package inode_test

import (
	"bytes"
	"maps"
	"math"
	"slices"
	"testing"

	"estafette/alloc"
	"estafette/api"
	"estafette/disk"
	"estafette/inode"
)

// far are numbers that are no inode, no kind and no change of links.
var far = []int{math.MinInt, math.MinInt32, -257, -256, -2, 256, 257, 65535, 65537, 1 << 32, 1<<32 + 1, math.MaxInt}

// marks are sizes at which a file's blocks change, and some others.
var marks = []int{0, 1, 63, 64, 65, 127, 128, 192, 255, 256, 257, 320, 321, 1000, 2047, 2048, 2239, 2240, 2241, 2303, 2304, 2305, 2368, 2369, 4351, 4352, 4353, 6400, 6401, 8448, 8449, 10496, 10497, 12544, 12545, 14592, 14593, 16319, 16320, 16321, 16383, 16384}

// text is so many bytes, each of which tells its place.
func text(n int) []byte {
	b := make([]byte, n)
	for i := range b {
		b[i] = byte(i*7 + i/256 + 1)
	}
	return b
}

func full(c byte, n int) []byte { return bytes.Repeat([]byte{c}, n) }

// space is a new space of so many sectors, with its disk.
func space(t *testing.T, sectors int) (*disk.Disk, *alloc.Space) {
	t.Helper()
	d, e := disk.New(sectors)
	if e != api.OK {
		t.Fatal(e)
	}
	result(t, "Format", alloc.Format(d), api.OK)
	return d, open(t, d)
}

func open(t *testing.T, d *disk.Disk) *alloc.Space {
	t.Helper()
	s, e := alloc.Open(d)
	if e != api.OK {
		t.Fatal(e)
	}
	return s
}

// files are those of a new space, in which a transaction is open.
func files(t *testing.T, sectors int) (*alloc.Space, *inode.Files) {
	t.Helper()
	_, s := space(t, sectors)
	result(t, "Begin", s.Begin(), api.OK)
	return s, inode.New(s)
}

func result(t *testing.T, call string, got, want api.Errno) {
	t.Helper()
	if got != want {
		t.Errorf("%s: %d, want %d", call, got, want)
	}
}

func made(t *testing.T, f *inode.Files, kind int, want ...int) {
	t.Helper()
	for _, w := range want {
		if n, e := f.Make(kind); n != w || e != api.OK {
			t.Fatalf("Make(%d): %d, %d; want %d", kind, n, e, w)
		}
	}
}

func notMade(t *testing.T, f *inode.Files, kind int, want api.Errno) {
	t.Helper()
	if n, e := f.Make(kind); n != 0 || e != want {
		t.Errorf("Make(%d): %d, %d; want %d", kind, n, e, want)
	}
}

func stat(t *testing.T, f *inode.Files, n, kind, links, size int) {
	t.Helper()
	if got, e := f.Stat(n); got != (api.Node{Kind: kind, Links: links, Size: size}) || e != api.OK {
		t.Errorf("Stat(%d): %v, %d; want %d, %d, %d", n, got, e, kind, links, size)
	}
}

func noFile(t *testing.T, f *inode.Files, n int) {
	t.Helper()
	if got, e := f.Stat(n); got != (api.Node{}) || e != api.ErrInode {
		t.Errorf("Stat(%d): %v, %d", n, got, e)
	}
}

func read(t *testing.T, f *inode.Files, n, at, many int, want []byte) {
	t.Helper()
	if b, e := f.Read(n, at, many); e != api.OK || !bytes.Equal(b, want) {
		t.Errorf("Read(%d, %d, %d): %d bytes, %d; want %d, or others", n, at, many, len(b), e, len(want))
	}
}

func notRead(t *testing.T, f *inode.Files, n, at, many int, want api.Errno) {
	t.Helper()
	if b, e := f.Read(n, at, many); b != nil || e != want {
		t.Errorf("Read(%d, %d, %d): %v, %d; want %d", n, at, many, b, e, want)
	}
}

func write(t *testing.T, f *inode.Files, n, at int, b []byte) {
	t.Helper()
	result(t, "Write", f.Write(n, at, b), api.OK)
}

func free(t *testing.T, s *alloc.Space, want int) {
	t.Helper()
	if s.Blocks() != want {
		t.Errorf("%d blocks are free, want %d", s.Blocks(), want)
	}
}

// image is all blocks and inodes of a space.
func image(s *alloc.Space) map[int]string {
	m := map[int]string{}
	for n := range api.MaxSectors {
		if b, e := s.Read(n); e == api.OK {
			m[n] = string(b)
		}
	}
	for n := range api.Inodes {
		b, _ := s.Inode(n)
		m[-1-n] = string(b)
	}
	return m
}

// refused tells that a call returns an error, and changes nothing.
func refused(t *testing.T, s *alloc.Space, call string, want api.Errno, do func() api.Errno) {
	t.Helper()
	was := image(s)
	result(t, call, do(), want)
	if !maps.Equal(image(s), was) {
		t.Errorf("%s changed something", call)
	}
}

// TestExamples is the chapter's table.
func TestExamples(t *testing.T) {
	for size, want := range map[int]int{0: 0, 1: 1, 256: 4, 257: 6, 2304: 37, 2305: 40, 16384: 265, 16385: 0} {
		if got := inode.Cost(size); got != want {
			t.Errorf("Cost(%d): %d, want %d", size, got, want)
		}
	}
	_, f := files(t, 1024)
	made(t, f, 1, 0)
	write(t, f, 0, 3, []byte("ab"))
	read(t, f, 0, 0, 9, []byte("\x00\x00\x00ab"))
	stat(t, f, 0, 1, 1, 5)
	result(t, "Cut(0, 4)", f.Cut(0, 4), api.OK)
	read(t, f, 0, 2, 9, []byte("\x00a"))
	result(t, "Cut(0, 9)", f.Cut(0, 9), api.ErrArg)
	for _, by := range []int{1, -1, -1} {
		result(t, "Link", f.Link(0, by), api.OK)
	}
	noFile(t, f, 0)
}

func TestP5_1Cost(t *testing.T) {
	for size := -500; size <= 17000; size++ {
		want := 0
		if size >= 0 && size <= 16384 {
			n := int(math.Ceil(float64(size) / 64))
			want = n
			if n > 4 {
				want++
			}
			if n > 36 {
				want += 1 + int(math.Ceil(float64(n-36)/32))
			}
		}
		if got := inode.Cost(size); got != want {
			t.Errorf("Cost(%d): %d, want %d", size, got, want)
		}
	}
	for _, size := range []int{math.MinInt, math.MinInt + 1, 1 << 32, 1<<32 + 64, math.MaxInt - 63, math.MaxInt} {
		if got := inode.Cost(size); got != 0 {
			t.Errorf("Cost(%d): %d", size, got)
		}
	}
}

// TestP5_1Occupied: a file of each size takes what Cost says, written at once, by its last byte alone, and cut from a longer one.
func TestP5_1Occupied(t *testing.T) {
	s, f := files(t, 1400)
	made(t, f, 1, 0, 1, 2)
	all := s.Blocks()
	for _, size := range marks {
		write(t, f, 0, 0, text(size))
		free(t, s, all-inode.Cost(size))
		result(t, "Cut", f.Cut(0, 0), api.OK)
		free(t, s, all)
		if size > 0 {
			write(t, f, 1, size-1, []byte{1})
			free(t, s, all-inode.Cost(size))
			result(t, "Cut", f.Cut(1, 0), api.OK)
		}
		write(t, f, 2, 0, text(16384))
		result(t, "Cut", f.Cut(2, size), api.OK)
		free(t, s, all-inode.Cost(size))
		read(t, f, 2, 0, 16384, text(size))
		result(t, "Cut", f.Cut(2, 0), api.OK)
	}
}

// TestOpenFirst: without a transaction all changes are ErrOpen, whatever else is wrong.
func TestOpenFirst(t *testing.T) {
	_, s := space(t, 1024)
	f := inode.New(s)
	s.Begin()
	made(t, f, 1, 0)
	write(t, f, 0, 0, text(300))
	s.Commit()
	closed := func() {
		t.Helper()
		for _, n := range append([]int{0, 1}, far...) {
			refused(t, s, "Make", api.ErrOpen, func() api.Errno { _, e := f.Make(n); return e })
			refused(t, s, "Write", api.ErrOpen, func() api.Errno { return f.Write(n, n, text(20000)) })
			refused(t, s, "Write of nothing", api.ErrOpen, func() api.Errno { return f.Write(n, 0, nil) })
			refused(t, s, "Cut", api.ErrOpen, func() api.Errno { return f.Cut(n, n) })
			refused(t, s, "Link", api.ErrOpen, func() api.Errno { return f.Link(n, n) })
			refused(t, s, "Link", api.ErrOpen, func() api.Errno { return f.Link(n, 1) })
		}
		stat(t, f, 0, 1, 1, 300)
		read(t, f, 0, 0, 999, text(300))
		notMade(t, f, 1, api.ErrOpen)
		notMade(t, f, 7, api.ErrOpen)
	}
	closed()
	s.Begin()
	s.Abort()
	closed()
}

func TestP5_2Make(t *testing.T) {
	s, f := files(t, 1024)
	for _, kind := range append([]int{-1, 0, 3, 4, 255, 258}, far...) {
		refused(t, s, "Make", api.ErrArg, func() api.Errno { _, e := f.Make(kind); return e })
		notMade(t, f, kind, api.ErrArg)
	}
	for n := range api.Inodes {
		noFile(t, f, n)
		made(t, f, 1+n%2, n)
		stat(t, f, n, 1+n%2, 1, 0)
		read(t, f, n, 0, 99, nil)
	}
	free(t, s, 273)
	if s.Inodes() != 0 {
		t.Errorf("%d inodes are free", s.Inodes())
	}
	notMade(t, f, 1, api.ErrNodes)
	notMade(t, f, 2, api.ErrNodes)
	notMade(t, f, 3, api.ErrArg)
	for n := range api.Inodes {
		stat(t, f, n, 1+n%2, 1, 0)
	}
	for _, n := range []int{200, 3, 77} {
		result(t, "Link", f.Link(n, -1), api.OK)
	}
	made(t, f, 2, 3, 77, 200)
	for _, n := range []int{3, 77, 200} {
		stat(t, f, n, 2, 1, 0)
	}
	stat(t, f, 2, 1, 1, 0)
	notMade(t, f, 1, api.ErrNodes)
}

// TestP5_2NoFile: what is no file is told so by each call, ahead of what else is wrong.
func TestP5_2NoFile(t *testing.T) {
	s, f := files(t, 1024)
	made(t, f, 2, 0)
	write(t, f, 0, 0, text(100))
	for _, n := range append([]int{-1, 1, 2, 255}, far...) {
		noFile(t, f, n)
		for _, k := range []int{-1, 0, 1, 20000} {
			notRead(t, f, n, k, k, api.ErrInode)
			refused(t, s, "Write", api.ErrInode, func() api.Errno { return f.Write(n, k, text(20000)) })
			refused(t, s, "Write of nothing", api.ErrInode, func() api.Errno { return f.Write(n, k, nil) })
			refused(t, s, "Cut", api.ErrInode, func() api.Errno { return f.Cut(n, k) })
			refused(t, s, "Link", api.ErrInode, func() api.Errno { return f.Link(n, k) })
		}
	}
	stat(t, f, 0, 2, 1, 100)
}

func TestP5_3Read(t *testing.T) {
	_, f := files(t, 1400)
	made(t, f, 1, 0, 1)
	b := text(9000)
	write(t, f, 0, 0, b)
	for _, at := range append([]int{9000, 9001}, marks...) {
		for _, many := range append([]int{1 << 32, math.MaxInt - 1, math.MaxInt}, marks...) {
			from := min(at, 9000)
			read(t, f, 0, at, many, b[from:from+min(many, 9000-from)])
		}
	}
	for _, at := range []int{1 << 32, math.MaxInt} {
		read(t, f, 0, at, math.MaxInt, nil)
		read(t, f, 0, at, 0, nil)
		read(t, f, 1, at, 1, nil)
	}
	read(t, f, 1, 0, 100, nil)
	for _, bad := range []int{-1, -64, math.MinInt} {
		for _, good := range []int{0, 5, 20000, math.MaxInt} {
			notRead(t, f, 0, bad, good, api.ErrArg)
			notRead(t, f, 0, good, bad, api.ErrArg)
			notRead(t, f, 1, good, bad, api.ErrArg)
		}
		notRead(t, f, 0, bad, bad, api.ErrArg)
	}
}

// TestP5_3ReadAfterCommit reads without a transaction, by the same Files and by others.
func TestP5_3ReadAfterCommit(t *testing.T) {
	d, s := space(t, 1400)
	f := inode.New(s)
	s.Begin()
	made(t, f, 1, 0)
	made(t, f, 2, 1)
	write(t, f, 0, 0, text(16384))
	write(t, f, 1, 0, text(2048))
	result(t, "Commit", s.Commit(), api.OK)
	d.Boot(nil)
	for _, f := range []*inode.Files{f, inode.New(s), inode.New(open(t, d))} {
		stat(t, f, 0, 1, 1, 16384)
		stat(t, f, 1, 2, 1, 2048)
		read(t, f, 0, 0, 16384, text(16384))
		read(t, f, 1, 64, 9999, text(2048)[64:])
	}
}

// TestR7Memory: neither what comes in is kept or changed, nor what goes out.
func TestR7Memory(t *testing.T) {
	_, f := files(t, 1024)
	made(t, f, 1, 0)
	room := full('x', 500)
	b := room[10:310:400]
	copy(b, text(300))
	write(t, f, 0, 0, b)
	write(t, f, 0, 350, b)
	want := slices.Concat(text(300), make([]byte, 50), text(300))
	if !bytes.Equal(room[:10], full('x', 10)) || !bytes.Equal(room[310:], full('x', 190)) || !bytes.Equal(b, text(300)) {
		t.Error("Write changed its argument")
	}
	copy(b, full('y', 300))
	read(t, f, 0, 0, 999, want)
	got, _ := f.Read(0, 0, 999)
	copy(got, full('z', 999))
	read(t, f, 0, 0, 999, want)
}

// TestP5_4Grow writes each longer size over what is there, behind it, and with a gap.
func TestP5_4Grow(t *testing.T) {
	s, f := files(t, 1400)
	made(t, f, 1, 0)
	all := s.Blocks()
	for _, from := range marks {
		for _, to := range marks {
			if to <= from || from != 0 && (from*31+to)%5 > 1 {
				continue
			}
			for _, at := range []int{0, from / 2, from, (from + to) / 2, to - 1} {
				write(t, f, 0, 0, full(200, 16384)) // what a file had once must not come back
				result(t, "Cut", f.Cut(0, from), api.OK)
				write(t, f, 0, at, text(to-at))
				want := make([]byte, to)
				copy(want, full(200, from))
				copy(want[at:], text(to-at))
				read(t, f, 0, 0, 16384, want)
				stat(t, f, 0, 1, 1, to)
				free(t, s, all-inode.Cost(to))
				result(t, "Cut", f.Cut(0, 0), api.OK)
			}
			if t.Failed() {
				t.Fatalf("from %d to %d", from, to)
			}
		}
	}
}

// TestP5_4Append lets a file grow byte by byte where its blocks change, and otherwise in steps.
func TestP5_4Append(t *testing.T) {
	s, f := files(t, 1400)
	made(t, f, 2, 0)
	all, b := s.Blocks(), text(16384)
	for at := 0; at < 16384; {
		k := min(1+at%61, 16384-at)
		write(t, f, 0, at, b[at:at+k])
		at += k
		free(t, s, all-inode.Cost(at))
		stat(t, f, 0, 2, 1, at)
	}
	read(t, f, 0, 0, 16384, b)
	refused(t, s, "Write", api.ErrLong, func() api.Errno { return f.Write(0, 16384, []byte{1}) })
}

// TestP5_4Inside writes within a file, which keeps its size and its blocks.
func TestP5_4Inside(t *testing.T) {
	s, f := files(t, 1400)
	made(t, f, 1, 0)
	want := text(9000)
	write(t, f, 0, 0, want)
	left := s.Blocks()
	for _, at := range marks {
		for _, many := range []int{1, 2, 63, 64, 65, 200, 3000} {
			if at+many <= 9000 {
				b := full(byte(at+many), many)
				write(t, f, 0, at, b)
				copy(want[at:], b)
			}
		}
	}
	read(t, f, 0, 0, 9999, want)
	stat(t, f, 0, 1, 1, 9000)
	free(t, s, left)
}

func TestP5_4WriteErrors(t *testing.T) {
	s, f := files(t, 1024)
	made(t, f, 1, 0)
	write(t, f, 0, 0, text(300))
	for _, b := range [][]byte{nil, {}, {1}, text(64), text(16384), text(16385)} {
		for _, at := range []int{-1, -64, math.MinInt, math.MinInt + 1} {
			refused(t, s, "Write", api.ErrArg, func() api.Errno { return f.Write(0, at, b) })
		}
		for _, at := range []int{16385 - len(b), 16385, 1 << 32, math.MaxInt - 1, math.MaxInt} {
			want := api.ErrLong
			if at < 0 {
				want = api.ErrArg
			}
			refused(t, s, "Write", want, func() api.Errno { return f.Write(0, at, b) })
		}
	}
	stat(t, f, 0, 1, 1, 300)
	read(t, f, 0, 0, 999, text(300))
}

// TestP5_4Nothing: an empty b changes nothing, wherever it is written.
func TestP5_4Nothing(t *testing.T) {
	s, f := files(t, 1024)
	made(t, f, 1, 0, 1)
	write(t, f, 0, 0, text(300))
	for n := range 2 {
		for _, at := range marks {
			refused(t, s, "Write of nothing", api.OK, func() api.Errno { return f.Write(n, at, nil) })
			refused(t, s, "Write of nothing", api.OK, func() api.Errno { return f.Write(n, at, []byte{}) })
		}
	}
	for s.Blocks() > 0 {
		s.Alloc()
	}
	refused(t, s, "Write of nothing", api.OK, func() api.Errno { return f.Write(0, 16384, nil) })
}

// TestP5_4Full leaves as many blocks as a file needs, and one less.
func TestP5_4Full(t *testing.T) {
	for _, from := range []int{0, 1, 256, 300, 2304, 4352, 5000} {
		for _, to := range []int{64, 65, 257, 2241, 2305, 4353, 6401, 9000} {
			if to <= from {
				continue
			}
			need := inode.Cost(to) - inode.Cost(from)
			for less := range 2 {
				s, f := files(t, 1024)
				made(t, f, 1, 0)
				write(t, f, 0, 0, text(from))
				for s.Blocks() > max(0, need-less) {
					s.Alloc()
				}
				if less == 0 || need == 0 {
					write(t, f, 0, to-1, []byte{9})
					free(t, s, 0)
					read(t, f, 0, 0, 9999, slices.Concat(text(from), make([]byte, to-1-from), []byte{9}))
					continue
				}
				refused(t, s, "Write", api.ErrFull, func() api.Errno { return f.Write(0, to-1, []byte{9}) })
				refused(t, s, "Write", api.ErrFull, func() api.Errno { return f.Write(0, 0, text(to)) })
				refused(t, s, "Write", api.ErrLong, func() api.Errno { return f.Write(0, 1, text(16384)) })
				stat(t, f, 0, 1, 1, from)
				read(t, f, 0, 0, 9999, text(from))
			}
		}
	}
}

// TestP5_4FullInside: what needs no further block is written though none is free.
func TestP5_4FullInside(t *testing.T) {
	s, f := files(t, 1024)
	made(t, f, 1, 0, 1)
	write(t, f, 0, 0, text(290))
	for s.Blocks() > 0 {
		s.Alloc()
	}
	write(t, f, 0, 100, full(9, 100))
	write(t, f, 0, 310, full(8, 10))
	want := slices.Concat(text(100), full(9, 100), text(290)[200:], make([]byte, 20), full(8, 10))
	read(t, f, 0, 0, 999, want)
	refused(t, s, "Write", api.ErrFull, func() api.Errno { return f.Write(0, 320, []byte{1}) })
	refused(t, s, "Write", api.ErrFull, func() api.Errno { return f.Write(1, 0, []byte{1}) })
	result(t, "Cut", f.Cut(0, 256), api.OK)
	free(t, s, 2)
	write(t, f, 1, 0, full(7, 128))
	free(t, s, 0)
	read(t, f, 0, 0, 999, want[:256])
	read(t, f, 1, 0, 999, full(7, 128))
}

func TestP5_4Cut(t *testing.T) {
	s, f := files(t, 1400)
	made(t, f, 1, 0, 1)
	all, b := s.Blocks(), text(16384)
	write(t, f, 0, 0, b)
	for _, size := range slices.Backward(marks) {
		for _, bad := range []int{-1, math.MinInt, math.MaxInt, 1 << 32} {
			result(t, "Cut", f.Cut(0, bad), api.ErrArg)
		}
		result(t, "Cut", f.Cut(0, size), api.OK)
		result(t, "Cut", f.Cut(0, size), api.OK)
		free(t, s, all-inode.Cost(size))
		stat(t, f, 0, 1, 1, size)
		read(t, f, 0, 0, 16384, b[:size])
		refused(t, s, "Cut", api.ErrArg, func() api.Errno { return f.Cut(0, size+1) })
		refused(t, s, "Cut", api.ErrArg, func() api.Errno { return f.Cut(0, -1) })
	}
	result(t, "Cut of an empty file", f.Cut(1, 0), api.OK)
	result(t, "Cut of an empty file", f.Cut(1, 1), api.ErrArg)
	stat(t, f, 1, 1, 1, 0)
}

func TestP5_5Link(t *testing.T) {
	s, f := files(t, 1400)
	made(t, f, 2, 0)
	made(t, f, 1, 1)
	all := s.Blocks()
	write(t, f, 0, 0, text(9000))
	write(t, f, 1, 0, text(500))
	for _, by := range append([]int{0, 2, 3, -2, -3, 255}, far...) {
		refused(t, s, "Link", api.ErrArg, func() api.Errno { return f.Link(0, by) })
	}
	for links := 2; links <= 5; links++ {
		result(t, "Link", f.Link(0, 1), api.OK)
		stat(t, f, 0, 2, links, 9000)
	}
	for links := 4; links >= 1; links-- {
		result(t, "Link", f.Link(0, -1), api.OK)
		stat(t, f, 0, 2, links, 9000)
		read(t, f, 0, 0, 9999, text(9000))
	}
	free(t, s, all-inode.Cost(9000)-inode.Cost(500))
	result(t, "Link", f.Link(0, -1), api.OK)
	noFile(t, f, 0)
	notRead(t, f, 0, 0, 1, api.ErrInode)
	free(t, s, all-inode.Cost(500))
	if b, e := s.Inode(0); e != api.OK || b[0] != 0 || s.Inodes() != 255 {
		t.Error("the inode is not free")
	}
	refused(t, s, "Link", api.ErrInode, func() api.Errno { return f.Link(0, 1) })
	refused(t, s, "Link", api.ErrInode, func() api.Errno { return f.Link(0, -1) })
	read(t, f, 1, 0, 9999, text(500))
	made(t, f, 1, 0)
	stat(t, f, 0, 1, 1, 0)
	read(t, f, 0, 0, 9999, nil)
}

func TestP5_5ManyLinks(t *testing.T) {
	s, f := files(t, 1024)
	made(t, f, 1, 0)
	write(t, f, 0, 0, text(400))
	for links := 2; links <= 65535; links++ {
		if e := f.Link(0, 1); e != api.OK {
			t.Fatal(links, e)
		}
	}
	stat(t, f, 0, 1, 65535, 400)
	refused(t, s, "Link", api.ErrArg, func() api.Errno { return f.Link(0, 1) })
	refused(t, s, "Link", api.ErrArg, func() api.Errno { return f.Link(0, 2) })
	result(t, "Link", f.Link(0, -1), api.OK)
	stat(t, f, 0, 1, 65534, 400)
	result(t, "Link", f.Link(0, 1), api.OK)
	stat(t, f, 0, 1, 65535, 400)
	read(t, f, 0, 0, 999, text(400))
}

// TestAbort: what a transaction did to files is undone with it.
func TestAbort(t *testing.T) {
	_, s := space(t, 1400)
	f := inode.New(s)
	s.Begin()
	made(t, f, 1, 0, 1, 2)
	write(t, f, 0, 0, text(9000))
	write(t, f, 1, 0, text(3000))
	s.Commit()
	was := image(s)
	s.Begin()
	made(t, f, 2, 3)
	write(t, f, 3, 5000, text(10))
	write(t, f, 0, 100, full(1, 9000))
	result(t, "Cut", f.Cut(1, 10), api.OK)
	result(t, "Link", f.Link(2, -1), api.OK)
	s.Abort()
	if !maps.Equal(image(s), was) {
		t.Error("something is not undone")
	}
	read(t, f, 0, 0, 9999, text(9000))
	read(t, f, 1, 0, 9999, text(3000))
	stat(t, f, 2, 1, 1, 0)
	noFile(t, f, 3)
}

// TestFewSectors: a transaction may write 600 sectors, so that a change must not write what stays as it is.
func TestFewSectors(t *testing.T) {
	d, s := space(t, 1400)
	f := inode.New(s)
	cost := func(most int, do func() api.Errno) {
		t.Helper()
		s.Begin()
		result(t, "change", do(), api.OK)
		before := d.Steps()
		result(t, "Commit", s.Commit(), api.OK)
		if wrote := (d.Steps() - before) / 2; wrote > most+10 { // the log writes each sector twice, and has a few of its own
			t.Errorf("%d sectors are written, at most %d are needed", wrote, most)
		}
	}
	cost(1, func() api.Errno { _, e := f.Make(1); return e })
	cost(265, func() api.Errno { return f.Write(0, 0, text(16384)) })
	cost(1, func() api.Errno { return f.Write(0, 9000, []byte{1}) })
	cost(1, func() api.Errno { return f.Cut(0, 16000) })
	cost(3, func() api.Errno { return f.Write(0, 16000, text(64)) })
	cost(1, func() api.Errno { return f.Link(0, 1) })
	cost(2, func() api.Errno { return f.Cut(0, 64) })
}

// TestPower turns the power off: what is cached may be answered, and all else is ErrPower.
func TestPower(t *testing.T) {
	d, s := space(t, 1400)
	f := inode.New(s)
	s.Begin()
	made(t, f, 1, 0)
	write(t, f, 0, 0, text(9000))
	result(t, "Commit", s.Commit(), api.OK)
	s = open(t, d)
	f = inode.New(s)
	s.Begin()
	d.Fuse(0)
	d.Barrier()
	notMade(t, f, 1, api.ErrPower)
	notMade(t, f, 3, api.ErrArg)
	notRead(t, f, 0, 0, 1, api.ErrPower)
	notRead(t, f, 0, -1, 1, api.ErrPower)
	if m, e := f.Stat(0); m != (api.Node{}) || e != api.ErrPower {
		t.Error(m, e)
	}
	result(t, "Write", f.Write(0, 0, []byte{1}), api.ErrPower)
	result(t, "Cut", f.Cut(0, 0), api.ErrPower)
	result(t, "Link", f.Link(0, 1), api.ErrPower)
	noFile(t, f, 256)
	d.Boot(nil)
	read(t, inode.New(open(t, d)), 0, 0, 9999, text(9000))
}

// TestPowerIsNotFull: a map of blocks that can't be read is no disk without room.
func TestPowerIsNotFull(t *testing.T) {
	for _, mapped := range []bool{false, true} {
		d, s := space(t, 1024)
		f := inode.New(s)
		s.Begin()
		made(t, f, 1, 0)
		if mapped { // then a part of the map is cached
			s.Alloc()
		}
		d.Fuse(0)
		d.Barrier()
		result(t, "Write", f.Write(0, 0, []byte{1}), api.ErrPower)
		stat(t, f, 0, 1, 1, 0)
	}
}

// TestNoSpace: Files without a space have no files, and change nothing.
func TestNoSpace(t *testing.T) {
	for _, f := range []*inode.Files{{}, inode.New(&alloc.Space{})} {
		notMade(t, f, 1, api.ErrOpen)
		noFile(t, f, 0)
		notRead(t, f, 0, 0, 1, api.ErrInode)
		result(t, "Write", f.Write(0, 0, []byte{1}), api.ErrOpen)
		result(t, "Cut", f.Cut(0, 0), api.ErrOpen)
		result(t, "Link", f.Link(0, 1), api.ErrOpen)
	}
}

// TestR1OtherInodes: inodes that no file made may mean anything, but nothing panics.
func TestR1OtherInodes(t *testing.T) {
	s, f := files(t, 1024)
	r := dice(5)
	for range 20 {
		n, _ := s.Alloc()
		b := make([]byte, api.SectorSize)
		for i := range b {
			b[i] = byte(r.throw(4)) // numbers such as 0x0302, which are near those of blocks
		}
		s.Write(n, b)
	}
	for k := range 3000 {
		b := make([]byte, 32)
		for i := range b {
			b[i] = byte(r.throw(256))
		}
		b[0] = byte(k % 4)
		b[5] = byte(r.throw(70))
		for i := 6; i < 18; i += 2 {
			place := 751 + r.throw(20)
			b[i], b[i+1] = byte(place), byte(place>>8)
		}
		s.SetInode(7, b)
		f.Stat(7)
		f.Read(7, r.throw(3000), r.throw(16384))
		f.Write(7, r.throw(3000), text(r.throw(16384)))
		f.Cut(7, r.throw(16384))
		f.Link(7, 1-2*r.throw(2))
	}
}
