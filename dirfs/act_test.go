package dirfs_test

import (
	"fmt"
	"math"
	"strings"
	"testing"

	"estafette/alloc"
	"estafette/api"
	"estafette/dirfs"
	"estafette/disk"
	"estafette/inode"
)

// grove is a tree with all that the rows of the acts speak of: /a/f and /b/g are one file, /full has 64 names of /one.
func grove(t *testing.T, sectors int) (*disk.Disk, *dirfs.FS) {
	t.Helper()
	d, f := tree(t, sectors)
	done(t, f, dir("/a"), file("/a/f", text(65)), dir("/b"), link("/a/f", "/b/g"), dir("/b/empty"), file("/one", text(9)), dir("/full"))
	fill(t, f, "/full", "/one", 64)
	return d, f
}

// each is an act of each kind, all with the same paths.
func each(path, to string) []api.Act {
	var l []api.Act
	for kind := api.ActDir; kind <= api.ActRmdir; kind++ {
		l = append(l, api.Act{Kind: kind, Path: path, To: to})
	}
	return l
}

func TestP6_4Kinds(t *testing.T) {
	d, f := grove(t, 1200)
	for _, kind := range []int{math.MinInt, -1 << 32, -8, -1, 0, 9, 10, 256 + 1, 1<<32 + 1, math.MaxInt} {
		for _, path := range []string{"/x", "/a", "", "/", "/x/y"} {
			refused(t, d, f, api.ErrArg, api.Act{Kind: kind, Path: path, To: path})
		}
	}
}

func TestP6_4Paths(t *testing.T) {
	d, f := grove(t, 1200)
	for _, path := range []string{"", "/", "x", "/a/", "//a", "/a/..", "/x/2/3/4/5/6/7", "/" + strings.Repeat("a", 29), strings.Repeat("/abcdefghijklmnopqrstuvwxy", 5)} {
		for _, a := range each(path, "/x") {
			refused(t, d, f, api.ErrPath, a)
		}
		for _, from := range []string{"/a/f", "/x", "/x/y", "/one/x", "/a"} {
			refused(t, d, f, api.ErrPath, link(from, path))
			refused(t, d, f, api.ErrPath, rename(from, path))
		}
	}
	// the To of other acts means nothing
	done(t, f, api.Act{Kind: api.ActDir, Path: "/x", To: "?"}, api.Act{Kind: api.ActFile, Path: "/y", To: "/"}, api.Act{Kind: api.ActAppend, Path: "/y", To: "/x"}, api.Act{Kind: api.ActWrite, Path: "/y", To: "/a/b/c"}, api.Act{Kind: api.ActUnlink, Path: "/y", To: "y"}, api.Act{Kind: api.ActRmdir, Path: "/x", To: ""})
}

func TestP6_4Locating(t *testing.T) {
	d, f := grove(t, 1200)
	for path, want := range map[string]api.Errno{
		"/x/y":         api.ErrNoEntry,
		"/x/y/z":       api.ErrNoEntry,
		"/a/x/y":       api.ErrNoEntry,
		"/b/empty/x/y": api.ErrNoEntry,
		"/one/x":       api.ErrKind,
		"/one/x/y/z":   api.ErrKind,
		"/a/f/x":       api.ErrKind,
	} {
		for _, a := range each(path, "/x/y") {
			refused(t, d, f, want, a)
		}
		refused(t, d, f, want, link("/a/f", path))
		refused(t, d, f, want, rename("/a/f", path))
		refused(t, d, f, want, rename("/a", path))
	}
}

// TestP6_4Missing: what is neither made nor needs to be there.
func TestP6_4Missing(t *testing.T) {
	d, f := grove(t, 1200)
	for _, path := range []string{"/x", "/a/x", "/b/empty/x", "/A", "/full/n064"} {
		for _, a := range each(path, "/one/x")[2:] {
			refused(t, d, f, api.ErrNoEntry, a)
		}
		refused(t, d, f, api.ErrNoEntry, rename(path, path))
		refused(t, d, f, api.ErrNoEntry, link(path, "/one"))
	}
}

func TestP6_4Make(t *testing.T) {
	d, f := grove(t, 1200)
	for _, path := range []string{"/a", "/a/f", "/one", "/b/empty", "/full/n000", "/full/n063"} {
		refused(t, d, f, api.ErrThere, dir(path))
		refused(t, d, f, api.ErrThere, file(path, nil))
	}
	refused(t, d, f, api.ErrNames, dir("/full/n064"))
	refused(t, d, f, api.ErrNames, file("/full/x", text(3)))
	deepest := "/b/empty/3/4/5/6"
	done(t, f, dir("/b/empty/3"), dir("/b/empty/3/4"), dir("/b/empty/3/4/5"), dir(deepest))
	stat(t, f, deepest, 2, 1, 0)
	refused(t, d, f, api.ErrPath, dir(deepest+"/7"))
	for _, size := range []int{0, 1, 64, 300, 10240} {
		path := fmt.Sprint("/s", size)
		b := text(size)
		done(t, f, file(path, b))
		clear(b)
		read(t, f, path, text(size))
		done(t, f, unlink(path))
	}
	long := strings.Repeat("N", 28)
	done(t, f, dir("/"+long), file("/"+long+"/"+long, text(7)), api.Act{Kind: api.ActDir, Path: "/d", Bytes: text(9)})
	read(t, f, "/"+long+"/"+long, text(7))
	list(t, f, "/"+long, long)
	stat(t, f, "/d", 2, 1, 0)
	stat(t, f, "/", 2, 1, 6)
}

// TestP6_4Names: a directory has room for 64 names, whatever they are.
func TestP6_4Names(t *testing.T) {
	d, f := tree(t, 1400)
	for i, name := range numbered(64) {
		switch i % 3 {
		case 0:
			done(t, f, dir("/"+name))
		case 1:
			done(t, f, file("/"+name, text(i)))
		default:
			done(t, f, link("/n001", "/"+name))
		}
		stat(t, f, "/", 2, 1, i+1)
	}
	list(t, f, "/", numbered(64)...)
	for _, a := range []api.Act{dir("/x"), file("/x", nil), link("/n001", "/x")} {
		refused(t, d, f, api.ErrNames, a)
	}
	done(t, f, file("/n000/y", nil), dir("/n000/z"))
	refused(t, d, f, api.ErrNames, rename("/n000/y", "/x"))
	refused(t, d, f, api.ErrKind, rename("/n000/z", "/x"))
	refused(t, d, f, api.ErrThere, rename("/n000/y", "/n063"))
	done(t, f, rename("/n001", "/x"))
	done(t, f, rename("/n063", "/y"))
	done(t, f, rename("/n000/y", "/n002"))
	stat(t, f, "/", 2, 1, 64)
	done(t, f, unlink("/n002"), dir("/n002"))
	refused(t, d, f, api.ErrNames, rmdir("/n002"), dir("/n002"), dir("/n003.5"))
}

// TestP6_4Nodes: with the root, 256 files and directories.
func TestP6_4Nodes(t *testing.T) {
	d, f := tree(t, 2048)
	made := 1
	for k := range 4 {
		top := fmt.Sprint("/d", k)
		done(t, f, dir(top))
		made++
		for i := range 62 {
			path := fmt.Sprint(top, "/", i)
			if i%2 == 0 {
				done(t, f, dir(path))
			} else {
				done(t, f, file(path, nil))
			}
			made++
		}
	}
	for i := made; i < 256; i++ {
		done(t, f, file(fmt.Sprint("/", i), nil))
		if f.Inodes() != 255-i {
			t.Fatalf("%d inodes are free where %d are used", f.Inodes(), i+1)
		}
	}
	refused(t, d, f, api.ErrNodes, dir("/x"))
	refused(t, d, f, api.ErrNodes, file("/x", text(5000)))
	refused(t, d, f, api.ErrThere, dir("/d0"))
	done(t, f, link("/255", "/d0/x"), link("/255", "/d0/y"))
	refused(t, d, f, api.ErrNames, dir("/d0/z"))
	refused(t, d, f, api.ErrNodes, unlink("/255"), dir("/x"))
	done(t, f, rmdir("/d3/0"), dir("/x"))
	refused(t, d, f, api.ErrNodes, file("/y", nil))
	done(t, f, unlink("/d0/y"), unlink("/d0/x"), unlink("/255"), file("/y", nil))
	if f.Inodes() != 0 || open(t, d).Inodes() != 0 {
		t.Error(f.Inodes())
	}
	pad := f.Free()
	for k := 0; pad > 0; k++ {
		path := fmt.Sprintf("/d1/%d", 2*k+1)
		for f.Do([]api.Act{attach(path, text(64))}) == api.OK {
		}
		pad = f.Free()
	}
	refused(t, d, f, api.ErrNodes, file("/x1", text(100)))
	refused(t, d, f, api.ErrFull, rmdir("/x"), file("/x", text(100)))
}

func TestP6_4Write(t *testing.T) {
	d, f := grove(t, 1400)
	for _, path := range []string{"/a", "/b/empty", "/full"} {
		refused(t, d, f, api.ErrKind, write(path, text(3)))
		refused(t, d, f, api.ErrKind, attach(path, nil))
	}
	for _, size := range []int{3, 0, 64, 65, 10240, 100, 2305, 2304, 257, 256, 1} {
		b := text(size)
		done(t, f, write("/b/g", b))
		clear(b)
		read(t, f, "/a/f", text(size))
		stat(t, f, "/a/f", 1, 2, size)
		counts(t, f, 1400-alloc.First(1400)-inode.Cost(4*32)-inode.Cost(32)-inode.Cost(64)-inode.Cost(64*32)-1-inode.Cost(size), 249, f.Groups())
	}
	want := text(1)
	for _, size := range []int{0, 1, 62, 63, 64, 65, 2000, 1, 10000} {
		done(t, f, attach("/a/f", text(size)))
		want = append(want, text(size)...)
		read(t, f, "/b/g", want)
	}
	refused(t, d, f, api.ErrLong, attach("/a/f", text(api.MaxFile-len(want)+1)))
	done(t, f, attach("/a/f", text(api.MaxFile-len(want))))
	stat(t, f, "/b/g", 1, 2, api.MaxFile)
	refused(t, d, f, api.ErrLong, attach("/a/f", text(1)))
	done(t, f, attach("/a/f", nil))
	refused(t, d, f, api.ErrLong, write("/a/f", text(10000)), attach("/a/f", text(240)), attach("/one", text(1)))
	done(t, f, write("/a/f", text(10000)), attach("/a/f", text(240)))
	done(t, f, attach("/a/f", text(6144)))
	refused(t, d, f, api.ErrLong, attach("/a/f", text(1)))
	read(t, f, "/a/f", append(append(text(10000), text(240)...), text(6144)...))
}

func TestP6_4Link(t *testing.T) {
	d, f := grove(t, 1200)
	refused(t, d, f, api.ErrKind, link("/a", "/x"))
	refused(t, d, f, api.ErrKind, link("/a", "/x/y"))
	refused(t, d, f, api.ErrNoEntry, link("/x", "/one/y"))
	refused(t, d, f, api.ErrThere, link("/a/f", "/one"))
	refused(t, d, f, api.ErrThere, link("/a/f", "/a/f"))
	refused(t, d, f, api.ErrThere, link("/a/f", "/b/g"))
	refused(t, d, f, api.ErrThere, link("/a/f", "/b/empty"))
	refused(t, d, f, api.ErrThere, link("/a/f", "/full/n000"))
	refused(t, d, f, api.ErrNames, link("/a/f", "/full/x"))
	refused(t, d, f, api.ErrNames, link("/full/n001", "/full/x"))
	done(t, f, link("/b/g", "/b/empty/h"), attach("/b/empty/h", text(3)))
	stat(t, f, "/a/f", 1, 3, 68)
	done(t, f, unlink("/a/f"), write("/b/g", text(4)))
	stat(t, f, "/b/empty/h", 1, 2, 4)
	missing(t, f, "/a/f", api.ErrNoEntry)
	stat(t, f, "/one", 1, 65, 9)
}

func TestP6_4Unlink(t *testing.T) {
	d, f := grove(t, 1200)
	for _, path := range []string{"/a", "/b/empty", "/full"} {
		refused(t, d, f, api.ErrKind, unlink(path))
	}
	free, inodes := f.Free(), f.Inodes()
	done(t, f, unlink("/a/f"))
	counts(t, f, free+1, inodes, f.Groups())
	list(t, f, "/a")
	read(t, f, "/b/g", text(65))
	refused(t, d, f, api.ErrNoEntry, unlink("/a/f"))
	done(t, f, unlink("/b/g"))
	counts(t, f, free+3, inodes+1, f.Groups())
	list(t, f, "/b", "empty")
	for i, name := range numbered(64) {
		if i%3 == 1 {
			done(t, f, unlink("/full/"+name))
			missing(t, f, "/full/"+name, api.ErrNoEntry)
		}
	}
	stat(t, f, "/full", 2, 1, 43)
	stat(t, f, "/one", 1, 44, 9)
	for i, name := range numbered(64) {
		if i%3 != 1 {
			read(t, f, "/full/"+name, text(9))
		}
	}
}

func TestP6_4Rmdir(t *testing.T) {
	d, f := grove(t, 1200)
	for _, path := range []string{"/one", "/a/f", "/full/n000"} {
		refused(t, d, f, api.ErrKind, rmdir(path))
	}
	for _, path := range []string{"/a", "/b", "/full"} {
		refused(t, d, f, api.ErrBusy, rmdir(path))
	}
	free, inodes := f.Free(), f.Inodes()
	done(t, f, rmdir("/b/empty"))
	counts(t, f, free, inodes+1, f.Groups())
	missing(t, f, "/b/empty", api.ErrNoEntry)
	refused(t, d, f, api.ErrNoEntry, rmdir("/b/empty"))
	done(t, f, unlink("/b/g"), rmdir("/b"), rename("/a/f", "/c"), rmdir("/a"), dir("/a"), rmdir("/a"))
	list(t, f, "/", "c", "full", "one")
}

func TestP6_4RenameErrors(t *testing.T) {
	d, f := grove(t, 1200)
	refused(t, d, f, api.ErrKind, rename("/b/empty", "/a/empty"))
	refused(t, d, f, api.ErrKind, rename("/b/empty", "/a/f"))
	refused(t, d, f, api.ErrKind, rename("/a", "/a/x"))
	refused(t, d, f, api.ErrKind, rename("/b", "/b/empty/x"))
	refused(t, d, f, api.ErrKind, rename("/b", "/full/n000"))
	refused(t, d, f, api.ErrKind, rename("/one", "/one/x"))
	refused(t, d, f, api.ErrNoEntry, rename("/b", "/c/b"))
	refused(t, d, f, api.ErrThere, rename("/a", "/b"))
	refused(t, d, f, api.ErrThere, rename("/a", "/one"))
	refused(t, d, f, api.ErrThere, rename("/one", "/a"))
	refused(t, d, f, api.ErrThere, rename("/a/f", "/b"))
	refused(t, d, f, api.ErrThere, rename("/a/f", "/b/empty"))
	refused(t, d, f, api.ErrThere, rename("/b/empty", "/b/g"))
	refused(t, d, f, api.ErrNames, rename("/a/f", "/full/x"))
	refused(t, d, f, api.ErrNames, rename("/one", "/full/x"))
}

func TestP6_4Rename(t *testing.T) {
	_, f := grove(t, 1200)
	for _, path := range []string{"/a", "/a/f", "/b/empty", "/full", "/full/n007"} {
		was, _ := f.Stat(path)
		done(t, f, rename(path, path))
		stat(t, f, path, was.Kind, was.Links, was.Size)
	}
	done(t, f, rename("/a/f", "/b/f"))
	list(t, f, "/a")
	list(t, f, "/b", "empty", "f", "g")
	stat(t, f, "/b/f", 1, 2, 65)
	done(t, f, rename("/b", "/a.b"), rename("/a.b/empty", "/a.b/e"))
	list(t, f, "/", "a", "a.b", "full", "one")
	list(t, f, "/a.b", "e", "f", "g")
	read(t, f, "/a.b/f", text(65))
	// one of two names of a file becomes the other
	done(t, f, rename("/a.b/f", "/a.b/g"))
	list(t, f, "/a.b", "e", "g")
	stat(t, f, "/a.b/g", 1, 1, 65)
	// a file takes the name of another, which is gone with its last name
	free, inodes := f.Free(), f.Inodes()
	done(t, f, file("/a/big", text(5000)))
	done(t, f, rename("/a.b/g", "/a/big"))
	read(t, f, "/a/big", text(65))
	counts(t, f, free-1, inodes, f.Groups()) // /a has a block now, and /a.b still has its own
	list(t, f, "/a.b", "e")
	// and is not gone if it has others
	done(t, f, rename("/a/big", "/full/n063"))
	stat(t, f, "/full", 2, 1, 64)
	stat(t, f, "/one", 1, 64, 9)
	stat(t, f, "/full/n063", 1, 1, 65)
	done(t, f, rename("/full/n000", "/full/x"))
	done(t, f, rename("/full/x", "/full/n062"))
	stat(t, f, "/full", 2, 1, 63)
	stat(t, f, "/full/n062", 1, 63, 9)
	done(t, f, rename("/one", "/full/two"))
	stat(t, f, "/full/two", 1, 63, 9)
	list(t, f, "/", "a", "a.b", "full")
}

func TestP6_4Limits(t *testing.T) {
	d, f := tree(t, 1400)
	many := func(a api.Act, n int) []api.Act {
		l := make([]api.Act, n)
		for i := range l {
			l[i] = a
		}
		return l
	}
	done(t, f, file("/f", nil), dir("/d"))
	refused(t, d, f, api.ErrLong, many(rename("/f", "/f"), 45)...)
	refused(t, d, f, api.ErrLong, many(api.Act{}, 45)...)
	refused(t, d, f, api.ErrLong, many(api.Act{}, 100000)...)
	refused(t, d, f, api.ErrArg, many(api.Act{}, 44)...)
	done(t, f, many(rename("/f", "/f"), 44)...)
	for _, a := range []api.Act{file("?", nil), write("/f", nil), attach("/f", text(1))} {
		refused(t, d, f, api.ErrLong, many(a, 13)...)
		refused(t, d, f, api.ErrLong, append(many(api.Act{}, 31), many(a, 13)...)...)
		refused(t, d, f, api.ErrArg, append(many(api.Act{}, 32), many(a, 12)...)...)
	}
	refused(t, d, f, api.ErrLong, append(append(many(write("/f", nil), 5), many(attach("/f", nil), 5)...), many(file("/g", nil), 3)...)...)
	done(t, f, append(many(rename("/f", "/f"), 32), many(attach("/f", text(1)), 12)...)...)
	for _, kind := range []int{api.ActFile, api.ActWrite, api.ActAppend} {
		path := []string{"/x", "/f", "/f"}[kind-api.ActFile]
		refused(t, d, f, api.ErrLong, api.Act{Kind: kind, Path: path, Bytes: text(10241)})
		refused(t, d, f, api.ErrLong, api.Act{Kind: kind, Path: "?", Bytes: text(10241)})
		refused(t, d, f, api.ErrLong, api.Act{}, api.Act{Kind: kind, Path: path, Bytes: text(5120)}, write("/f", text(5121)))
		refused(t, d, f, api.ErrLong, api.Act{Kind: kind, Path: path, Bytes: text(20000)})
		done(t, f, api.Act{Kind: kind, Path: path, Bytes: text(5120)}, write("/f", text(5120)))
		done(t, f, write("/f", nil))
	}
	// other acts' bytes are not written
	big := text(20000)
	for _, kind := range []int{api.ActDir, api.ActLink, api.ActRename, api.ActUnlink, api.ActRmdir} {
		path := []string{1: "/e", 5: "/f", 6: "/x", 7: "/d", 8: "/e"}[kind]
		done(t, f, api.Act{Kind: kind, Path: path, To: fmt.Sprint("/to", kind), Bytes: big}, write("/f", text(10240)))
		done(t, f, write("/f", nil))
		if kind == api.ActDir {
			done(t, f, rename("/d", "/d"))
		}
	}
	list(t, f, "/", "f", "to5", "to7")
}

// TestP6_4Order: the first error counts, and each act finds what those ahead of it did.
func TestP6_4Order(t *testing.T) {
	d, f := grove(t, 1200)
	refused(t, d, f, api.ErrThere, dir("/x"), dir("/x"), dir("/y/z"))
	refused(t, d, f, api.ErrNoEntry, unlink("/one"), unlink("/one"), dir("?"))
	refused(t, d, f, api.ErrArg, api.Act{}, dir("?"))
	refused(t, d, f, api.ErrPath, dir("?"), api.Act{})
	refused(t, d, f, api.ErrBusy, dir("/x"), dir("/x/y"), rmdir("/x"))
	refused(t, d, f, api.ErrKind, file("/x", nil), dir("/x/y"))
	done(t, f, dir("/x"), dir("/x/y"), file("/x/y/f", text(5)), link("/x/y/f", "/x/g"), rename("/x", "/z"), attach("/z/g", text(2)), unlink("/z/y/f"), rmdir("/z/y"))
	list(t, f, "/z", "g")
	read(t, f, "/z/g", append(text(5), text(2)...))
	stat(t, f, "/z/g", 1, 1, 7)
}

// TestP6_4Unkept: Do neither changes nor keeps what it is given.
func TestP6_4Unkept(t *testing.T) {
	d, f := tree(t, 1024)
	b := text(200)[:100]
	l := []api.Act{file("/f", b), dir("/d"), link("/f", "/d/g"), attach("/f", b)}
	done(t, f, l...)
	if string(b[:200]) != string(text(200)) || l[0].Path != "/f" || len(l[0].Bytes) != 100 {
		t.Error("Do changed what it was given")
	}
	clear(b)
	clear(l)
	read(t, f, "/d/g", append(text(100), text(100)...))
	read(t, open(t, d), "/f", append(text(100), text(100)...))
}

// TestP6_4Full goes to the last block, and one beyond.
func TestP6_4Full(t *testing.T) {
	d, f := tree(t, 1024)
	done(t, f, dir("/d"), file("/d/f", nil))
	pad(t, f, 10)
	stat(t, f, "/d", 2, 1, 1)
	refused(t, d, f, api.ErrFull, write("/d/f", text(64*10)))
	refused(t, d, f, api.ErrFull, attach("/d/f", text(64*9+1)))
	done(t, f, write("/d/f", text(64*9)))
	counts(t, f, 0, f.Inodes(), f.Groups())
	refused(t, d, f, api.ErrFull, attach("/d/f", text(1)))
	done(t, f, attach("/d/f", nil))
	done(t, f, write("/d/f", text(64*9-5)))
	done(t, f, attach("/d/f", text(5)))
	// /d has half a block left, but no more
	done(t, f, file("/d/g", nil))
	refused(t, d, f, api.ErrFull, file("/d/h", nil))
	refused(t, d, f, api.ErrFull, dir("/d/h"))
	refused(t, d, f, api.ErrFull, link("/d/f", "/d/h"))
	done(t, f, unlink("/d/g"), link("/d/f", "/d/h"))
	// a file may give its own blocks
	done(t, f, write("/d/f", text(64*9-1)))
	refused(t, d, f, api.ErrFull, write("/d/f", text(64*9+1)))
	counts(t, f, 0, f.Inodes(), f.Groups())
}

// TestP6_4FullBetween: each act must leave room, not only the last.
func TestP6_4FullBetween(t *testing.T) {
	d, f := tree(t, 1024)
	done(t, f, dir("/d"), file("/d/f", text(64*4)), file("/d/g", nil))
	pad(t, f, 3)
	refused(t, d, f, api.ErrFull, write("/d/g", text(64*4)), write("/d/f", nil))
	done(t, f, write("/d/f", nil), write("/d/g", text(64*4)))
	refused(t, d, f, api.ErrFull, attach("/d/f", text(64*4)), unlink("/d/g"))
	refused(t, d, f, api.ErrFull, file("/d/h", text(64*3)), unlink("/d/h"))
	refused(t, d, f, api.ErrFull, attach("/d/f", text(64*4)), api.Act{})
	refused(t, d, f, api.ErrArg, api.Act{}, attach("/d/f", text(64*4)))
	done(t, f, unlink("/d/g"), attach("/d/f", text(64*4)))
	counts(t, f, 3, f.Inodes(), f.Groups())
}

// TestP6_4FullRename: a name that moves gives a block back ahead of the one that it takes.
func TestP6_4FullRename(t *testing.T) {
	d, f := tree(t, 1024)
	done(t, f, dir("/a"), dir("/b"), file("/a/f", text(64)), file("/b/g", text(64)), file("/b/h", text(64)))
	pad(t, f, 0)
	done(t, f, rename("/a/f", "/a/g"))
	done(t, f, rename("/b/h", "/a/1"), rename("/b/g", "/a/2"), rename("/a/2", "/b/g"), rename("/a/1", "/b/h"))
	done(t, f, rename("/b/h", "/a/h"))
	refused(t, d, f, api.ErrFull, rename("/a/h", "/b/1"), rename("/b/1", "/a/h"), link("/a/h", "/a/i"))
	done(t, f, rename("/b/g", "/a/h"))
	counts(t, f, 2, f.Inodes(), f.Groups())
	list(t, f, "/b")
	pad(t, f, 0)
	refused(t, d, f, api.ErrFull, rename("/a/h", "/b/h"))
	done(t, f, unlink("/a/g"))
	counts(t, f, 1, f.Inodes(), f.Groups())
	pad(t, f, 0)
	done(t, f, rename("/a/h", "/b/h"))
	list(t, f, "/a")
	list(t, f, "/b", "h")
	counts(t, f, 0, f.Inodes(), f.Groups())
}
