package vfs

import "tephra/api"

// Whether an act is done at which the file system falls.
const (
	doneAtFall   = true
	undoneAtFall = false
)

// ask is of one act to come: when it is pending, of the one ahead of which as many others come as are left.
type ask struct {
	pending bool
	left    int
}

// asked is of the act that comes behind so many others; below 0, of none.
func asked(acts int) ask {
	return ask{pending: acts >= 0, left: acts}
}

// comes tells of the act that comes now whether this is asked of it.
func (a *ask) comes() bool {
	if !a.pending {
		return false
	}
	if a.left == 0 {
		*a = ask{}
		return true
	}
	a.left--
	return false
}

// act does an act that isn't refused, unless it is one that fails or at which the file system falls. All acts come by here, each once, so that they are counted.
func (f *FS) act(atFall bool, do func()) api.Errno {
	fails, falls := f.fail.comes(), f.fall.comes()
	if falls {
		f.down = true
		if atFall {
			do()
		}
		return api.ErrDown
	}
	if fails {
		return api.ErrIO
	}
	do()
	return api.OK
}
