package dirfs_test

import (
	"fmt"
	"maps"
	"slices"
	"strings"
	"testing"

	"estafette/alloc"
	"estafette/api"
	"estafette/dirfs"
	"estafette/inode"
)

// thing is a file or a directory of the model.
type thing struct {
	kind  int
	bytes string
	names map[string]*thing
}

// model is the chapter taken word by word, without a disk.
type model struct {
	root   *thing
	blocks int
	groups int
}

func newModel(sectors int) *model {
	return &model{root: newDir(), blocks: sectors - alloc.First(sectors)}
}

func newDir() *thing { return &thing{kind: api.KindDir, names: map[string]*thing{}} }

// links counts the names of each thing below a directory.
func (x *thing) links(m map[*thing]int) map[*thing]int {
	for _, y := range x.names {
		m[y]++
		y.links(m)
	}
	return m
}

// clone copies a tree; names of one file are names of one file in the copy, too.
func (x *thing) clone(copies map[*thing]*thing) *thing {
	if c := copies[x]; c != nil {
		return c
	}
	c := &thing{kind: x.kind, bytes: x.bytes, names: map[string]*thing{}}
	copies[x] = c
	for name, y := range x.names {
		c.names[name] = y.clone(copies)
	}
	return c
}

func (x *thing) size() int {
	if x.kind == api.KindDir {
		return 32 * len(x.names)
	}
	return len(x.bytes)
}

func (m *model) things() map[*thing]int { return m.root.links(map[*thing]int{m.root: 1}) }

func (m *model) free() int {
	n := m.blocks
	for x := range m.things() {
		n -= inode.Cost(x.size())
	}
	return n
}

func (m *model) inodes() int { return 256 - len(m.things()) }

// follow goes along names.
func (m *model) follow(names []string) (*thing, api.Errno) {
	x := m.root
	for _, name := range names {
		if x.kind == api.KindFile {
			return nil, api.ErrKind
		}
		if x = x.names[name]; x == nil {
			return nil, api.ErrNoEntry
		}
	}
	return x, api.OK
}

// parent finds the directory of a path, and its last name.
func (m *model) parent(path string) (*thing, string, api.Errno) {
	names := strings.Split(path[1:], "/")
	last := len(names) - 1
	x, e := m.follow(names[:last])
	if e == api.OK && x.kind == api.KindFile {
		e = api.ErrKind
	}
	return x, names[last], e
}

func (m *model) do(l []api.Act) api.Errno {
	files, written := 0, 0
	for _, a := range l {
		switch a.Kind {
		case 2, 3, 4:
			files++
			written += len(a.Bytes)
		}
	}
	if len(l) > 44 || files > 12 || written > 10240 {
		return api.ErrLong
	}
	was := m.root.clone(map[*thing]*thing{})
	for _, a := range l {
		e := m.act(a)
		if e == api.OK && m.free() < 0 {
			e = api.ErrFull
		}
		if e != api.OK {
			m.root = was
			return e
		}
	}
	m.groups++
	return api.OK
}

func (m *model) act(a api.Act) api.Errno {
	if a.Kind < 1 || a.Kind > 8 {
		return api.ErrArg
	}
	good := func(s string) bool { l, is := dirfs.Path(s); return is && len(l) > 0 }
	if !good(a.Path) || (a.Kind == 5 || a.Kind == 7) && !good(a.To) {
		return api.ErrPath
	}
	dir, name, e := m.parent(a.Path)
	if e != api.OK {
		return e
	}
	x := dir.names[name]
	if a.Kind <= 2 {
		return m.make(dir, name, a)
	}
	if x == nil {
		return api.ErrNoEntry
	}
	if a.Kind <= 6 && x.kind == api.KindDir || a.Kind == 8 && x.kind == api.KindFile {
		return api.ErrKind
	}
	switch a.Kind {
	case 3:
		x.bytes = string(a.Bytes)
	case 4:
		if len(x.bytes)+len(a.Bytes) > 16384 {
			return api.ErrLong
		}
		x.bytes += string(a.Bytes)
	case 5:
		return m.link(x, a.To)
	case 7:
		return m.rename(dir, name, a)
	case 8:
		if len(x.names) > 0 {
			return api.ErrBusy
		}
		delete(dir.names, name)
	case 6:
		delete(dir.names, name)
	}
	return api.OK
}

func (m *model) make(dir *thing, name string, a api.Act) api.Errno {
	switch {
	case dir.names[name] != nil:
		return api.ErrThere
	case len(dir.names) == 64:
		return api.ErrNames
	case m.inodes() == 0:
		return api.ErrNodes
	case a.Kind == 1:
		dir.names[name] = newDir()
	default:
		dir.names[name] = &thing{kind: api.KindFile, bytes: string(a.Bytes)}
	}
	return api.OK
}

func (m *model) link(x *thing, path string) api.Errno {
	dir, name, e := m.parent(path)
	switch {
	case e != api.OK:
		return e
	case dir.names[name] != nil:
		return api.ErrThere
	case len(dir.names) == 64:
		return api.ErrNames
	}
	dir.names[name] = x
	return api.OK
}

func (m *model) rename(dir *thing, name string, a api.Act) api.Errno {
	if a.To == a.Path {
		return api.OK
	}
	x := dir.names[name]
	to, toName, e := m.parent(a.To)
	if e != api.OK {
		return e
	}
	if x.kind == api.KindDir && to != dir {
		return api.ErrKind
	}
	if y := to.names[toName]; y != nil {
		if x.kind != api.KindFile || y.kind != api.KindFile {
			return api.ErrThere
		}
		delete(to.names, toName)
	}
	if len(to.names) == 64 && to != dir {
		return api.ErrNames
	}
	delete(dir.names, name)
	to.names[toName] = x
	return api.OK
}

// same tells that a tree is the model's.
func (m *model) same(t *testing.T, f *dirfs.FS) {
	t.Helper()
	counts(t, f, m.free(), m.inodes(), m.groups)
	things := m.things()
	m.sameBelow(t, f, things, m.root, "/")
	if t.Failed() {
		t.FailNow()
	}
}

func (m *model) sameBelow(t *testing.T, f *dirfs.FS, things map[*thing]int, x *thing, path string) {
	t.Helper()
	if x.kind == api.KindFile {
		stat(t, f, path, 1, things[x], len(x.bytes))
		read(t, f, path, []byte(x.bytes))
		return
	}
	stat(t, f, path, 2, 1, len(x.names))
	names := slices.Sorted(maps.Keys(x.names))
	list(t, f, path, names...)
	for _, name := range names {
		m.sameBelow(t, f, things, x.names[name], strings.TrimSuffix(path, "/")+"/"+name)
	}
}

// dice throws the same numbers in each run.
type dice uint64

func (r *dice) throw(n int) int {
	*r = *r*6364136223846793005 + 1442695040888963407
	return int(uint64(*r) >> 33 % uint64(n))
}

// game is how acts are made at random.
type game struct {
	r     dice
	names int // how many there are
	depth int // of the deepest paths
	size  int // of the greatest bytes
}

func (g *game) path() string {
	if g.r.throw(60) == 0 {
		return []string{"", "/", "x", "/a/", "/.."}[g.r.throw(5)]
	}
	s := ""
	for range 1 + g.r.throw(g.depth) {
		n := g.r.throw(g.names)
		if g.r.throw(3) > 0 {
			n %= 3 // some names are used more, so that paths lead somewhere
		}
		s += fmt.Sprint("/n", n)
	}
	return s
}

func (g *game) act() api.Act {
	a := api.Act{Kind: 1 + g.r.throw(8), Path: g.path(), To: g.path()}
	if g.r.throw(60) == 0 {
		a.Kind = g.r.throw(3)*9 - 9
	}
	if g.r.throw(15) == 0 {
		a.To = a.Path
	}
	a.Bytes = make([]byte, g.r.throw(g.size))
	for i := range a.Bytes {
		a.Bytes[i] = byte(g.r.throw(256))
	}
	return a
}

// acts are mostly few, since all are undone if one is refused.
func (g *game) acts() []api.Act {
	var l []api.Act
	for range []int{0, 1, 1, 1, 2, 2, 3, 4}[g.r.throw(8)] {
		l = append(l, g.act())
	}
	return l
}

// crowd makes many small things in few directories, so that names and inodes run out.
func (g *game) crowd() []api.Act {
	a := g.act()
	a.Kind = []int{1, 2, 2, 1, 2, 1, 5, 7}[g.r.throw(8)]
	path := func() string {
		return fmt.Sprint("/n", min(g.r.throw(5), g.r.throw(5)), "/n", g.r.throw(g.names))
	}
	a.Path, a.To = path(), path()
	return []api.Act{a}
}

// games are of three kinds: great files, many names, and deep paths.
func games(seed int) *game {
	return []*game{{dice(seed), 5, 3, 9000}, {dice(seed), 80, 2, 4}, {dice(seed), 12, 4, 700}}[seed%3]
}

// TestP6_4AgainstModel lets trees and the model do the same at random, on disks that are often full.
func TestP6_4AgainstModel(t *testing.T) {
	answers := map[api.Errno]int{}
	for seed := range 24 {
		g := games(seed)
		sectors := 1024 + seed%5*97
		d, f := tree(t, sectors)
		m := newModel(sectors)
		for i := range 1000 {
			l := g.acts()
			if i < 6 {
				l = []api.Act{dir(fmt.Sprint("/n", i))}
			} else if i < 900 && g.names == 80 {
				l = g.crowd()
			}
			steps := d.Steps()
			got, want := f.Do(l), m.do(l)
			if got != want || got != api.OK && d.Steps() != steps {
				t.Fatalf("seed %d: Do: %d, want %d, with %d steps: %s", seed, got, want, d.Steps()-steps, told(l))
			}
			answers[got]++
			if i%20 == 7 {
				d.Boot([]int{0, 1})
				f = open(t, d)
			}
			if i%(1+g.names) == 0 { // with many names, comparing takes long
				m.same(t, f)
			}
		}
		m.same(t, f)
	}
	for _, e := range []api.Errno{api.OK, api.ErrArg, api.ErrFull, api.ErrLong, api.ErrNodes, api.ErrPath, api.ErrNoEntry, api.ErrKind, api.ErrThere, api.ErrNames, api.ErrBusy} {
		if answers[e] < 20 {
			t.Errorf("%d happened %d times only", e, answers[e])
		}
	}
}

// TestP6_6AtOnce does lists of acts at once on one disk, and one by one on another.
func TestP6_6AtOnce(t *testing.T) {
	for seed := range 10 {
		g := &game{dice(seed + 1000), 6, 3, 2000}
		d, f := tree(t, 1100)
		m := newModel(1100)
		for range 40 {
			l := accepted(g, m, g.r.throw(20))
			m.do(l)
			single := open(t, d.Clone())
			for _, a := range l {
				done(t, single, a)
			}
			done(t, f, l...)
			if single.Groups() != f.Groups()-1+len(l) {
				t.Errorf("%d groups one by one, %d at once", single.Groups(), f.Groups())
			}
			x, y := image(t, f), image(t, single)
			delete(x, " ") // it has the groups, too
			delete(y, " ")
			if !maps.Equal(x, y) || f.Free() != single.Free() || f.Inodes() != single.Inodes() {
				t.Fatalf("another tree: %s", told(l))
			}
		}
		m.same(t, f)
	}
}

// sectorsOf tells how many sectors the group of a Do had that took so many steps.
func sectorsOf(steps int) int {
	for n := range api.Room + 1 {
		if 2*n+(n+31)/32 >= steps-6 {
			return n
		}
	}
	return api.Room + 1
}

// TestP6_4Greatest does acts that write about as many sectors as acts can: each changes two directories whose blocks and inodes no other changes, or lays bytes over several kinds of blocks of a file of its own.
func TestP6_4Greatest(t *testing.T) {
	const renames = api.MaxActs - api.MaxFiles
	d, f := tree(t, 8192)
	done(t, f, dir("/from"), dir("/to"), dir("/files"), file("/n", nil))
	for i := range renames { // a file beside each directory keeps their inodes in sectors of their own
		from, to := fmt.Sprint("/from/", i), fmt.Sprint("/to/", i)
		done(t, f, dir(from), file(from+"f", nil), dir(to))
		done(t, f, link(from+"f", to+"/x"), file(from+"/x", text(64)), link(from+"f", from+"/y"))
		for k := range 8 {
			done(t, f, link(from+"f", fmt.Sprint(to, "/", k)))
		}
	}
	for i := range api.MaxFiles {
		path := fmt.Sprint("/files/", i)
		done(t, f, file(path, text(2303)), dir(path+"d"))
	}
	var l []api.Act
	for i := range renames {
		l = append(l, rename(fmt.Sprint("/from/", i, "/x"), fmt.Sprint("/to/", i, "/x")))
	}
	for i := range api.MaxFiles {
		l = append(l, attach(fmt.Sprint("/files/", i), text(api.MaxWritten/api.MaxFiles)))
	}
	steps := d.Steps()
	done(t, f, l...)
	if n := sectorsOf(d.Steps() - steps); n < 400 {
		t.Errorf("%d sectors only", n)
	}
	read(t, f, "/files/11", append(text(2303), text(853)...))
	read(t, open(t, d), "/to/31/x", text(64))
}

// TestP6_4Long does lists of 44 acts at random, each accepted by itself: no list is too much for a transaction.
func TestP6_4Long(t *testing.T) {
	most := 0
	for seed := range 10 {
		g := &game{dice(seed + 500), 9, 3, 3000}
		d, f := tree(t, 4096)
		m := newModel(4096)
		for range 12 {
			l := accepted(g, m, api.MaxActs)
			steps := d.Steps()
			if e := f.Do(l); e != m.do(l) || e != api.OK {
				t.Fatalf("Do: %d: %s", e, told(l))
			}
			most = max(most, sectorsOf(d.Steps()-steps))
			m.same(t, f)
		}
	}
	if most < 100 {
		t.Errorf("%d sectors only", most)
	}
}

// accepted are so many acts that the model does one behind the other.
func accepted(g *game, m *model, many int) []api.Act {
	try := &model{m.root.clone(map[*thing]*thing{}), m.blocks, 0}
	var l []api.Act
	files, written := 0, 0
	for len(l) < many {
		a := g.act()
		lays := a.Kind >= 2 && a.Kind <= 4
		if lays && (files == api.MaxFiles || written+len(a.Bytes) > api.MaxWritten) || try.do([]api.Act{a}) != api.OK {
			continue
		}
		if lays {
			files++
			written += len(a.Bytes)
		}
		l = append(l, a)
	}
	return l
}
