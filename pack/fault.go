package pack

import "precinct/api"

// fault is what the walks through values and bytes panic with: a type of its
// own, so that it can't be taken for a panic that nobody meant.
type fault struct{ e api.Errno }

func fail(e api.Errno) { panic(fault{e}) }

// check leaves by a fault, unless all is well.
func check(e api.Errno) {
	if e != api.OK {
		fail(e)
	}
}

// caught does the work, and tells the fault by which it left.
func caught(work func()) (e api.Errno) {
	defer func() {
		left := recover()
		if left == nil {
			return
		}
		f, ok := left.(fault)
		if !ok {
			panic(left) // a mistake of the program's own must not pass for an answer
		}
		e = f.e
	}()
	work()
	return api.OK
}
