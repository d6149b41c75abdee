package dirfs_test

import (
	"bytes"
	"fmt"
	"maps"
	"regexp"
	"slices"
	"strings"
	"testing"

	"estafette/alloc"
	"estafette/api"
	"estafette/dirfs"
	"estafette/disk"
	"estafette/inode"
)

func dir(path string) api.Act              { return api.Act{Kind: api.ActDir, Path: path} }
func file(path string, b []byte) api.Act   { return api.Act{Kind: api.ActFile, Path: path, Bytes: b} }
func write(path string, b []byte) api.Act  { return api.Act{Kind: api.ActWrite, Path: path, Bytes: b} }
func attach(path string, b []byte) api.Act { return api.Act{Kind: api.ActAppend, Path: path, Bytes: b} }
func link(path, to string) api.Act         { return api.Act{Kind: api.ActLink, Path: path, To: to} }
func unlink(path string) api.Act           { return api.Act{Kind: api.ActUnlink, Path: path} }
func rename(path, to string) api.Act       { return api.Act{Kind: api.ActRename, Path: path, To: to} }
func rmdir(path string) api.Act            { return api.Act{Kind: api.ActRmdir, Path: path} }

// text is so many bytes, each of which tells its place.
func text(n int) []byte {
	b := make([]byte, n)
	for i := range b {
		b[i] = byte(i*7 + i/256 + 1)
	}
	return b
}

func newDisk(t *testing.T, sectors int) *disk.Disk {
	t.Helper()
	d, e := disk.New(sectors)
	if e != api.OK {
		t.Fatal(e)
	}
	return d
}

// tree is a new tree, with its disk.
func tree(t *testing.T, sectors int) (*disk.Disk, *dirfs.FS) {
	t.Helper()
	d := newDisk(t, sectors)
	result(t, "Format", dirfs.Format(d), api.OK)
	return d, open(t, d)
}

func open(t *testing.T, d *disk.Disk) *dirfs.FS {
	t.Helper()
	f, e := dirfs.Open(d)
	if f == nil || e != api.OK {
		t.Fatalf("Open: %v, %d", f, e)
	}
	return f
}

func notOpened(t *testing.T, d *disk.Disk, want api.Errno) {
	t.Helper()
	if f, e := dirfs.Open(d); f != nil || e != want {
		t.Errorf("Open: %v, %d; want %d", f, e, want)
	}
}

func result(t *testing.T, call string, got, want api.Errno) {
	t.Helper()
	if got != want {
		t.Errorf("%s: %d, want %d", call, got, want)
	}
}

func done(t *testing.T, f *dirfs.FS, l ...api.Act) {
	t.Helper()
	was := f.Groups()
	if e := f.Do(l); e != api.OK || f.Groups() != was+1 {
		t.Fatalf("Do: %d, and %d groups where %d were: %s", e, f.Groups(), was, told(l))
	}
}

// refused tells that Do returns an error, and neither changes nor writes anything.
func refused(t *testing.T, d *disk.Disk, f *dirfs.FS, want api.Errno, l ...api.Act) {
	t.Helper()
	was, steps := image(t, f), d.Steps()
	if e := f.Do(l); e != want {
		t.Errorf("Do: %d, want %d: %s", e, want, told(l))
	}
	if d.Steps() != steps || d.Waiting() != 0 {
		t.Errorf("an error wrote sectors: %s", told(l))
	}
	if !maps.Equal(image(t, f), was) {
		t.Errorf("an error changed something: %s", told(l))
	}
}

// told is acts in few words.
func told(l []api.Act) string {
	var s []string
	for _, a := range l {
		s = append(s, fmt.Sprintf("%d %.130s %.130s %d bytes", a.Kind, a.Path, a.To, len(a.Bytes)))
	}
	return strings.Join(s, "; ")
}

func stat(t *testing.T, f *dirfs.FS, path string, kind, links, size int) {
	t.Helper()
	if n, e := f.Stat(path); n != (api.Node{Kind: kind, Links: links, Size: size}) || e != api.OK {
		t.Errorf("Stat(%s): %v, %d; want %d, %d, %d", path, n, e, kind, links, size)
	}
}

func read(t *testing.T, f *dirfs.FS, path string, want []byte) {
	t.Helper()
	if b, e := f.Read(path); e != api.OK || !bytes.Equal(b, want) {
		t.Errorf("Read(%s): %d bytes, %d; want %d, or others", path, len(b), e, len(want))
	}
}

func list(t *testing.T, f *dirfs.FS, path string, want ...string) {
	t.Helper()
	if l, e := f.List(path); e != api.OK || !slices.Equal(l, want) {
		t.Errorf("List(%s): %v, %d; want %v", path, l, e, want)
	}
}

// missing tells what Stat, Read and List return for a path with an error that they share.
func missing(t *testing.T, f *dirfs.FS, path string, want api.Errno) {
	t.Helper()
	if n, e := f.Stat(path); n != (api.Node{}) || e != want {
		t.Errorf("Stat(%.140s): %v, %d; want %d", path, n, e, want)
	}
	notRead(t, f, path, want)
	notListed(t, f, path, want)
}

func notRead(t *testing.T, f *dirfs.FS, path string, want api.Errno) {
	t.Helper()
	if b, e := f.Read(path); len(b) != 0 || e != want {
		t.Errorf("Read(%.140s): %v, %d; want %d", path, b, e, want)
	}
}

func notListed(t *testing.T, f *dirfs.FS, path string, want api.Errno) {
	t.Helper()
	if l, e := f.List(path); len(l) != 0 || e != want {
		t.Errorf("List(%.140s): %v, %d; want %d", path, l, e, want)
	}
}

func counts(t *testing.T, f *dirfs.FS, free, inodes, groups int) {
	t.Helper()
	if f.Free() != free || f.Inodes() != inodes || f.Groups() != groups {
		t.Errorf("%d blocks, %d inodes, %d groups; want %d, %d, %d", f.Free(), f.Inodes(), f.Groups(), free, inodes, groups)
	}
}

// image is all that a tree tells.
func image(t *testing.T, f *dirfs.FS) map[string]string {
	t.Helper()
	m := map[string]string{" ": fmt.Sprint(f.Free(), f.Inodes(), f.Groups())}
	for work := []string{"/"}; len(work) > 0; work = work[1:] {
		n, e := f.Stat(work[0])
		if e != api.OK {
			t.Fatalf("Stat(%s): %d", work[0], e)
		}
		m[work[0]] = fmt.Sprint(n)
		if n.Kind == api.KindFile {
			b, _ := f.Read(work[0])
			m[work[0]] += string(b)
			continue
		}
		l, _ := f.List(work[0])
		for _, name := range l {
			work = append(work, strings.TrimSuffix(work[0], "/")+"/"+name)
		}
	}
	return m
}

// numbered are so many names.
func numbered(n int) []string {
	l := make([]string, n)
	for i := range l {
		l[i] = fmt.Sprintf("n%03d", i)
	}
	return l
}

// fill gives a directory so many names of one file.
func fill(t *testing.T, f *dirfs.FS, path, of string, many int) {
	t.Helper()
	names := numbered(many)
	for len(names) > 0 {
		var l []api.Act
		for _, name := range names[:min(api.MaxActs, len(names))] {
			l = append(l, link(of, strings.TrimSuffix(path, "/")+"/"+name))
		}
		done(t, f, l...)
		names = names[len(l):]
	}
}

// pad leaves so many free blocks, by files with names of their own in the root.
func pad(t *testing.T, f *dirfs.FS, left int) {
	t.Helper()
	for f.Free() > left {
		l, _ := f.List("/")
		path := fmt.Sprintf("/pad%d", len(l))
		done(t, f, file(path, nil))
		size := 0
		for _, more := range []int{10240, 640, 64} {
			for size+more <= api.MaxFile && inode.Cost(size+more)-inode.Cost(size) <= f.Free()-left {
				done(t, f, attach(path, text(more)))
				size += more
			}
		}
	}
	if f.Free() != left {
		t.Fatalf("%d blocks are free, want %d", f.Free(), left)
	}
}

// TestExamples is the chapter's table.
func TestExamples(t *testing.T) {
	_, f := tree(t, 1024)
	counts(t, f, 273, 255, 0)
	done(t, f, dir("/a"), file("/a/f", text(65)))
	counts(t, f, 269, 253, 1)
	done(t, f, link("/a/f", "/g"))
	stat(t, f, "/g", 1, 2, 65)
	done(t, f, rename("/g", "/a/f"))
	list(t, f, "/", "a")
	list(t, f, "/a", "f")
	stat(t, f, "/a/f", 1, 1, 65)
	result(t, "Do", f.Do([]api.Act{file("/x", []byte("1")), dir("/a")}), api.ErrThere)
	missing(t, f, "/x", api.ErrNoEntry)
	result(t, "Do", f.Do([]api.Act{rmdir("/a")}), api.ErrBusy)
	result(t, "Do", f.Do([]api.Act{unlink("/a")}), api.ErrKind)
	result(t, "Do", f.Do([]api.Act{unlink("/a/b/c")}), api.ErrNoEntry)
}

func TestP6_1Path(t *testing.T) {
	longest := "/" + strings.Repeat("x", 28)
	for s, want := range map[string][]string{
		"/":                    nil,
		"/a":                   {"a"},
		"/a/b":                 {"a", "b"},
		"/.a":                  {".a"},
		"/...":                 {"..."},
		"/a./..b/-/_/+/=":      {"a.", "..b", "-", "_", "+", "="},
		"/1/2/3/4/5/6":         {"1", "2", "3", "4", "5", "6"},
		"/ann@estafette/INBOX": {"ann@estafette", "INBOX"},
		longest:                {longest[1:]},
		longest + longest:      {longest[1:], longest[1:]},
	} {
		if l, is := dirfs.Path(s); !is || !slices.Equal(l, want) {
			t.Errorf("Path(%s): %v, %v", s, l, is)
		}
	}
	for _, s := range []string{"", "a", "a/", "a/b", "//", "//a", "/a/", "/a//b", "/.", "/..", "/./a", "/a/../b", "/a/.", "/1/2/3/4/5/6/7", longest + "x", "/a" + longest + "x", "/a b", "/a\x00", "/\xc3\xa9", "/a\n", " /a", "/a/b/c/d/e/f/", strings.Repeat("/", 9), strings.Repeat("a", 1<<20), "/" + strings.Repeat("/a", 1<<20)} {
		if l, is := dirfs.Path(s); is || len(l) > 0 {
			t.Errorf("Path(%.50q): %v, %v", s, l, is)
		}
	}
}

// TestP6_1Bytes asks for each byte, by itself, within a name, and in a short word.
func TestP6_1Bytes(t *testing.T) {
	const good = "ABCDEFGHIJKLMNOPQRSTUVWXYZabcdefghijklmnopqrstuvwxyz0123456789.-_+=@"
	for c := range 256 {
		s := string([]byte{byte(c)})
		want := strings.Contains(good, s)
		for _, path := range []string{"/x" + s, "/" + s + "x", "/a/x" + s + "y/b"} {
			if _, is := dirfs.Path(path); is != (want || s == "/" && path != "/x/" && path != "//x") {
				t.Errorf("Path(%q): %v", path, is)
			}
		}
		if _, is := dirfs.Path("/" + s); is != (want && s != ".") {
			t.Errorf("Path(%q): %v", "/"+s, is)
		}
	}
}

// TestP6_1Lengths goes around 6 names, 28 bytes of a name and 120 of a path, beside a pattern that says the same.
func TestP6_1Lengths(t *testing.T) {
	pattern := regexp.MustCompile(`^(/|(/[a-z]{1,28}){1,6})$`)
	longest := 0
	for depth := 1; depth <= 8; depth++ {
		for size := 0; size <= 30; size++ {
			for more := range 30 {
				s := strings.Repeat("/"+strings.Repeat("n", size), depth) + strings.Repeat("e", more)
				want := pattern.MatchString(s) && len(s) <= 120
				l, is := dirfs.Path(s)
				if is != want || is && "/"+strings.Join(l, "/") != s || !is && len(l) > 0 {
					t.Fatalf("Path(%s): %v, %v", s, l, is)
				}
				if is {
					longest = max(longest, len(s))
				}
			}
		}
	}
	if longest != 120 {
		t.Errorf("the longest path had %d bytes", longest)
	}
}

func TestP6_2Sizes(t *testing.T) {
	for _, n := range []int{1, 64, 620, 1023} {
		d := newDisk(t, n)
		result(t, "Format", dirfs.Format(d), api.ErrArg)
		notOpened(t, d, api.ErrArg)
		if d.Steps() != 0 {
			t.Errorf("%d sectors: %d steps", n, d.Steps())
		}
		d.Fuse(0)
		d.Barrier()
		result(t, "Format without power", dirfs.Format(d), api.ErrArg)
		notOpened(t, d, api.ErrArg)
	}
	for _, n := range []int{1024, 1025, 1536, 1537, 5000, 8191, 8192} {
		d := newDisk(t, n)
		notOpened(t, d, api.ErrCorrupt)
		result(t, "Format", dirfs.Format(d), api.OK)
		f := open(t, d)
		counts(t, f, n-alloc.First(n), 255, 0)
		stat(t, f, "/", 2, 1, 0)
		list(t, f, "/")
	}
}

// TestP6_2Again formats a disk that has a tree, and one whose sectors have anything.
func TestP6_2Again(t *testing.T) {
	d, f := tree(t, 1200)
	done(t, f, dir("/a"), file("/a/f", text(5000)), file("/g", text(100)))
	done(t, f, link("/g", "/h"))
	result(t, "Format", dirfs.Format(d), api.OK)
	d.Boot(nil)
	f = open(t, d)
	counts(t, f, 1200-alloc.First(1200), 255, 0)
	list(t, f, "/")
	missing(t, f, "/a", api.ErrNoEntry)

	d = newDisk(t, 1024)
	for i := range 1024 {
		d.Write(i, text(64 + i%7)[i%7:])
	}
	notOpened(t, d, api.ErrCorrupt)
	result(t, "Format", dirfs.Format(d), api.OK)
	f = open(t, d)
	counts(t, f, 273, 255, 0)
	done(t, f, file("/f", text(300)), file("/g", nil))
	read(t, f, "/f", text(300))
	read(t, f, "/g", nil)
}

func TestP6_2Open(t *testing.T) {
	d, f := tree(t, 1400)
	done(t, f, dir("/a"), dir("/a/b"), file("/a/b/f", text(3000)))
	done(t, f, link("/a/b/f", "/g"), file("/empty", nil))
	was, steps := image(t, f), d.Steps()
	for range 3 {
		f = open(t, d)
		if !maps.Equal(image(t, f), was) {
			t.Error("another tree was opened")
		}
	}
	if d.Steps() != steps {
		t.Errorf("Open took %d steps", d.Steps()-steps)
	}
	done(t, f, unlink("/a/b/f"))
	read(t, open(t, d), "/g", text(3000))
}

// TestP6_2NoTree opens spaces that are none, or not wholly.
func TestP6_2NoTree(t *testing.T) {
	d := newDisk(t, 1024)
	alloc.Format(d)
	notOpened(t, d, api.ErrCorrupt)
	for _, make := range []func(*alloc.Space, *inode.Files){
		func(s *alloc.Space, f *inode.Files) { f.Make(api.KindFile) },
		func(s *alloc.Space, f *inode.Files) { f.Make(api.KindFile); f.Make(api.KindDir) },
	} {
		d := newDisk(t, 1024)
		alloc.Format(d)
		s, _ := alloc.Open(d)
		s.Begin()
		make(s, inode.New(s))
		s.Commit()
		notOpened(t, d, api.ErrCorrupt)
	}
}

// TestP6_2Damage changes a tree behind its back: what is there then is none.
func TestP6_2Damage(t *testing.T) {
	d, f := tree(t, 1024)
	done(t, f, dir("/a"), file("/a/f", text(700)), dir("/b"), link("/a/f", "/b/g"), file("/b/h", nil), dir("/b/c"))
	type space struct {
		*alloc.Space
		*inode.Files
		a, b, c, f, h int
	}
	for what, change := range map[string]func(s space){
		"a file without a name":        func(s space) { s.Make(api.KindFile) },
		"a directory without a name":   func(s space) { s.Make(api.KindDir) },
		"a block without a file":       func(s space) { s.Alloc() },
		"a link without a name":        func(s space) { s.Link(s.f, 1) },
		"a name without a link":        func(s space) { s.Link(s.f, -1) },
		"a name without a file":        func(s space) { s.Link(s.h, -1) },
		"a name without a directory":   func(s space) { s.Link(s.c, -1) },
		"a root with two links":        func(s space) { s.Link(0, 1) },
		"a directory with two links":   func(s space) { s.Link(s.c, 1) },
		"a directory with two names":   func(s space) { s.Link(s.c, 1); enter(s.Files, s.a, "c", s.c) },
		"a root with a name":           func(s space) { s.Link(0, 1); enter(s.Files, s.c, "root", 0) },
		"a directory in itself":        func(s space) { s.Link(s.c, 1); enter(s.Files, s.c, "c", s.c) },
		"a directory in its own":       func(s space) { s.Link(s.b, 1); enter(s.Files, s.c, "b", s.b) },
		"no root":                      func(s space) { s.Link(0, -1) },
		"a root without names":         func(s space) { s.Cut(0, 0) },
		"a root with a name less":      func(s space) { s.Cut(0, 32) },
		"an entry that is cut":         func(s space) { s.Cut(0, 63) },
		"an entry of zeros":            func(s space) { s.Files.Write(0, 64, make([]byte, 32)) },
		"zeros behind the entries":     func(s space) { s.Files.Write(0, 64, make([]byte, 3)) },
		"a name with a bad byte":       func(s space) { s.Files.Write(s.b, 0, []byte("?")) },
		"an empty name":                func(s space) { s.Link(s.f, 1); enter(s.Files, s.c, "", s.f) },
		"a name that is a dot":         func(s space) { s.Link(s.f, 1); enter(s.Files, s.c, ".", s.f) },
		"a name with a zero in it":     func(s space) { s.Link(s.f, 1); enter(s.Files, s.c, "a\x00b", s.f) },
		"a name twice":                 func(s space) { s.Link(s.f, 1); enter(s.Files, s.a, "f", s.f) },
		"65 entries":                   func(s space) { crowd(s.Files, s.c, s.f, 65) },
		"bits of blocks that are used": func(s space) { freeAll(s.Space) },
		"an inode that is of no kind":  func(s space) { s.SetInode(s.c, text(32)) },
		"a free inode of no kind":      func(s space) { s.SetInode(200, text(32)) },
	} {
		c := d.Clone()
		s, _ := alloc.Open(c)
		s.Begin()
		change(space{s, inode.New(s), 1, 3, 5, 2, 4})
		result(t, what, s.Commit(), api.OK)
		if f, e := dirfs.Open(c); f != nil || e != api.ErrCorrupt {
			t.Errorf("%s: %v, %d", what, f, e)
		}
	}
	c := d.Clone()
	s, _ := alloc.Open(c)
	s.Begin()
	crowd(inode.New(s), 5, 2, 64)
	result(t, "Commit", s.Commit(), api.OK)
	stat(t, open(t, c), "/b/c", 2, 1, 64)
}

// TestP6_2Erased erases one sector of those ahead of the blocks. What is in the log means nothing any more.
func TestP6_2Erased(t *testing.T) {
	d, f := tree(t, 1024)
	done(t, f, dir("/a"), file("/a/f", text(700)))
	none := make([]byte, api.SectorSize)
	for i := range alloc.First(1024) {
		was, _ := d.Read(i)
		if i > 1 && i <= api.WalSectors || bytes.Equal(was, none) {
			continue
		}
		c := d.Clone()
		c.Write(i, none)
		c.Barrier()
		if f, e := dirfs.Open(c); f != nil || e != api.ErrCorrupt {
			t.Errorf("sector %d is erased: %v, %d", i, f, e)
		}
	}
}

func TestP6_2Dark(t *testing.T) {
	d, _ := tree(t, 1024)
	d.Fuse(0)
	d.Barrier()
	notOpened(t, d, api.ErrPower)
	result(t, "Format", dirfs.Format(d), api.ErrPower)
}

// enter lays an entry into a directory without asking whether it may be there.
func enter(f *inode.Files, dir int, name string, node int) {
	var b [32]byte
	copy(b[:], name)
	b[28] = byte(node)
	n, _ := f.Stat(dir)
	f.Write(dir, n.Size, b[:])
}

// crowd gives a directory so many names of a file.
func crowd(f *inode.Files, dir, node, many int) {
	for _, name := range numbered(many) {
		f.Link(node, 1)
		enter(f, dir, name, node)
	}
}

func freeAll(s *alloc.Space) {
	for n := range 1024 {
		s.Free(n)
	}
}

// TestP6_2Free holds the free blocks and inodes against the formula, at the sizes where a file's and a directory's blocks change.
func TestP6_2Free(t *testing.T) {
	_, f := tree(t, 2000)
	all := 2000 - alloc.First(2000)
	for _, size := range []int{0, 1, 64, 65, 256, 257, 2304, 2305, 4352, 4353, 10240} {
		done(t, f, file("/f", text(size)))
		counts(t, f, all-inode.Cost(32)-inode.Cost(size), 254, f.Groups())
		done(t, f, unlink("/f"))
		counts(t, f, all, 255, f.Groups())
	}
	done(t, f, dir("/d"), file("/f", nil))
	for i, name := range numbered(64) {
		done(t, f, link("/f", "/d/"+name))
		counts(t, f, all-inode.Cost(64)-inode.Cost(32*(i+1)), 253, f.Groups())
	}
	for i, name := range numbered(64) {
		done(t, f, unlink("/d/"+name))
		counts(t, f, all-inode.Cost(64)-inode.Cost(32*(63-i)), 253, f.Groups())
	}
}

func TestP6_2Groups(t *testing.T) {
	d, f := tree(t, 1024)
	for i := range 5 {
		counts(t, f, 273, 255, i)
		done(t, f)
		f = open(t, d)
	}
	done(t, f, dir("/a"), dir("/b"), dir("/c"))
	refused(t, d, f, api.ErrThere, dir("/d"), dir("/a"))
	refused(t, d, f, api.ErrLong, make([]api.Act, 45)...)
	if f.Groups() != 6 || open(t, d).Groups() != 6 {
		t.Error(f.Groups())
	}
	result(t, "Format", dirfs.Format(d), api.OK)
	counts(t, open(t, d), 273, 255, 0)
}

func TestP6_3Errors(t *testing.T) {
	d, f := tree(t, 1024)
	done(t, f, dir("/a"), dir("/a/b"), file("/a/f", text(10)))
	steps := d.Steps()
	for path, want := range map[string]api.Errno{
		"":               api.ErrPath,
		"a":              api.ErrPath,
		"/a/":            api.ErrPath,
		"/a/f/../f":      api.ErrPath,
		"/x/2/3/4/5/6/7": api.ErrPath,
		"/x":             api.ErrNoEntry,
		"/A":             api.ErrNoEntry,
		"/x/y/z":         api.ErrNoEntry,
		"/a/x":           api.ErrNoEntry,
		"/a/x/f":         api.ErrNoEntry,
		"/a/b/f":         api.ErrNoEntry,
		"/f":             api.ErrNoEntry,
		"/aa":            api.ErrNoEntry,
		"/a/f/x":         api.ErrKind,
		"/a/f/x/y":       api.ErrKind,
		"/a/f/f":         api.ErrKind,
	} {
		missing(t, f, path, want)
	}
	for _, path := range []string{"/", "/a", "/a/b"} {
		notRead(t, f, path, api.ErrKind)
	}
	notListed(t, f, "/a/f", api.ErrKind)
	if d.Steps() != steps {
		t.Error("reading wrote something")
	}
}

func TestP6_3Results(t *testing.T) {
	d, f := tree(t, 1400)
	done(t, f, file("/b", text(3)), dir("/a"), file("/Z", nil), file("/a.b", text(10000)), dir("/a/x"), file("/-", nil), file("/_", nil), file("/10", nil), file("/9", nil))
	done(t, f, link("/b", "/a/b"), link("/b", "/a/x/b"))
	steps := d.Steps()
	list(t, f, "/", "-", "10", "9", "Z", "_", "a", "a.b", "b")
	list(t, f, "/a", "b", "x")
	list(t, f, "/a/x", "b")
	stat(t, f, "/", 2, 1, 8)
	stat(t, f, "/a", 2, 1, 2)
	stat(t, f, "/a/x", 2, 1, 1)
	stat(t, f, "/a/x/b", 1, 3, 3)
	stat(t, f, "/a.b", 1, 1, 10000)
	stat(t, f, "/Z", 1, 1, 0)
	read(t, f, "/a.b", text(10000))
	read(t, f, "/a/b", text(3))
	read(t, f, "/Z", nil)
	if d.Steps() != steps {
		t.Error("reading wrote something")
	}
	b, _ := f.Read("/b")
	clear(b[:cap(b)])
	l, _ := f.List("/")
	clear(l[:cap(l)])
	read(t, f, "/b", text(3))
	list(t, f, "/", "-", "10", "9", "Z", "_", "a", "a.b", "b")
}

// TestP6_3Dark: without power, reading may fail, but tells nothing else.
func TestP6_3Dark(t *testing.T) {
	d, f := tree(t, 1400)
	done(t, f, dir("/a"), file("/a/f", text(10000)))
	free, inodes := f.Free(), f.Inodes()
	for _, f := range []*dirfs.FS{f, open(t, d)} {
		d.Fuse(0)
		d.Barrier()
		if n, e := f.Stat("/a/f"); e != api.ErrPower && (e != api.OK || n.Size != 10000) || e == api.ErrPower && n != (api.Node{}) {
			t.Error(n, e)
		}
		if b, e := f.Read("/a/f"); e != api.ErrPower && (e != api.OK || !bytes.Equal(b, text(10000))) || e == api.ErrPower && len(b) > 0 {
			t.Error(len(b), e)
		}
		if l, e := f.List("/a"); e != api.ErrPower && (e != api.OK || !slices.Equal(l, []string{"f"})) || e == api.ErrPower && len(l) > 0 {
			t.Error(l, e)
		}
		if n := f.Free(); n != 0 && n != free {
			t.Error(n)
		}
		if n := f.Inodes(); n != 0 && n != inodes {
			t.Error(n)
		}
		for _, l := range [][]api.Act{nil, {dir("/b")}, {write("/a/f", text(1000))}, {rename("/a/f", "/g")}} {
			result(t, "Do", f.Do(l), api.ErrPower)
		}
		result(t, "Do", f.Do(make([]api.Act, 45)), api.ErrLong)
		d.Boot(nil)
	}
}

// TestNoFS: what Open did not return has no tree.
func TestNoFS(t *testing.T) {
	var f dirfs.FS
	missing(t, &f, "/", api.ErrCorrupt)
	missing(t, &f, "/a", api.ErrCorrupt)
	missing(t, &f, "a", api.ErrPath)
	counts(t, &f, 0, 0, 0)
	for _, l := range [][]api.Act{nil, {dir("/a")}, {unlink("/a")}} {
		result(t, "Do", f.Do(l), api.ErrCorrupt)
	}
	result(t, "Do", f.Do(make([]api.Act, 45)), api.ErrLong)
}
