package dirfs

import "estafette/api"

// tooMuch tells whether these are more acts, files or bytes than Do takes.
func tooMuch(l []api.Act) bool {
	files, written := 0, 0
	for _, a := range l {
		if a.Kind >= api.ActFile && a.Kind <= api.ActAppend {
			files++
			written += len(a.Bytes)
		}
	}
	return len(l) > api.MaxActs || files > api.MaxFiles || written > api.MaxWritten
}

// act does one act in the open transaction. Where an act both frees blocks and takes some, it frees first, so that it lacks room only if the tree needs too much behind it.
func (f *FS) act(a api.Act) {
	refuse(a.Kind < api.ActDir || a.Kind > api.ActRmdir, api.ErrArg)
	path := splitBelowRoot(a.Path)
	var to []string
	if a.Kind == api.ActLink || a.Kind == api.ActRename {
		to = splitBelowRoot(a.To)
	}
	at := f.locate(path)
	switch a.Kind {
	case api.ActDir:
		f.create(at, api.KindDir, nil)
	case api.ActFile:
		f.create(at, api.KindFile, a.Bytes)
	case api.ActWrite:
		n := f.needFile(at)
		must(f.files().Cut(n, 0))
		f.extend(n, a.Bytes)
	case api.ActAppend:
		f.extend(f.needFile(at), a.Bytes)
	case api.ActLink:
		f.link(f.needFile(at), to)
	case api.ActUnlink:
		f.drop(at, f.needFile(at))
	case api.ActRename:
		f.rename(at, to)
	case api.ActRmdir:
		f.removeDir(at)
	}
}

func splitBelowRoot(path string) []string {
	names := split(path)
	refuse(len(names) == 0, api.ErrPath)
	return names
}

// locate finds the directory that the last of the names belongs into.
func (f *FS) locate(names []string) spot {
	last := len(names) - 1
	dir := f.reach(names[:last])
	f.demand(dir, api.KindDir)
	return spot{dir, names[last]}
}

func (f *FS) needFile(at spot) int {
	n := f.need(at)
	f.demand(n, api.KindFile)
	return n
}

func (f *FS) create(at spot, kind int, b []byte) {
	f.vacant(at)
	n, e := f.files().Make(kind)
	must(e)
	f.enter(at, n)
	f.extend(n, b)
}

// extend lays b behind the bytes of file n.
func (f *FS) extend(n int, b []byte) { must(f.files().Write(n, f.stat(n).Size, b)) }

func (f *FS) link(n int, to []string) {
	at := f.locate(to)
	f.vacant(at)
	must(f.files().Link(n, 1))
	f.enter(at, n)
}

// drop removes a name of inode n; with its last name the inode is free.
func (f *FS) drop(at spot, n int) {
	f.leave(at)
	must(f.files().Link(n, -1))
}

func (f *FS) rename(from spot, names []string) {
	n := f.need(from)
	to := f.locate(names)
	if to == from {
		return
	}
	isDir := f.stat(n).Kind == api.KindDir
	refuse(isDir && to.dir != from.dir, api.ErrKind)
	if old, is := f.find(to); is {
		refuse(isDir || f.stat(old).Kind == api.KindDir, api.ErrThere)
		f.drop(to, old)
	}
	f.leave(from)
	f.vacant(to)
	f.enter(to, n)
}

func (f *FS) removeDir(at spot) {
	n := f.need(at)
	f.demand(n, api.KindDir)
	refuse(f.stat(n).Size > 0, api.ErrBusy)
	f.drop(at, n)
}
