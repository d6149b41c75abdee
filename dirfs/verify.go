package dirfs

import (
	"slices"

	"estafette/api"
	"estafette/inode"
)

// verify tells whether what a space of so many blocks holds is a tree: all other calls rely on that.
func (f *FS) verify(blocks int) (e api.Errno) {
	defer func() { e = reason(recover()) }()
	names := f.countNames()
	inodes := api.Inodes
	for n, links := range names {
		if links == 0 {
			continue
		}
		m, e := f.files().Stat(n)
		must(e)
		insist(m.Links == links && (links == 1 || m.Kind == api.KindFile))
		inodes--
		blocks -= inode.Cost(m.Size)
	}
	insist(f.Inodes() == inodes && f.Free() == blocks)
	return api.OK
}

// insist panics unless something is as it is in every tree.
func insist(so bool) {
	if !so {
		panic(failed(api.ErrCorrupt))
	}
}

// countNames counts the names of each inode, in all directories that the root leads to; the root itself has none, but counts as one.
func (f *FS) countNames() [api.Inodes]int {
	insist(f.stat(root).Kind == api.KindDir)
	names := [api.Inodes]int{root: 1}
	for dirs := []int{root}; len(dirs) > 0; dirs = dirs[1:] {
		for _, x := range f.soundEntries(dirs[0]) {
			names[x.node]++
			if names[x.node] == 1 && f.stat(x.node).Kind == api.KindDir {
				dirs = append(dirs, x.node)
			}
		}
	}
	return names
}

// soundEntries reads a directory, which must have the form that enter and leave give it.
func (f *FS) soundEntries(dir int) []entry {
	l := f.entries(dir)
	m, e := f.files().Stat(dir)
	must(e)
	insist(m.Size == len(l)*entrySize && len(l) <= api.MaxEntries)
	names := namesOf(l)
	slices.Sort(names)
	insist(all(names, isName) && len(slices.Compact(names)) == len(l))
	return l
}
