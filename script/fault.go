package script

import (
	"errors"

	"braid/api"
)

// fault is the first fault of a text, and the line that it is told of.
type fault struct {
	line int
	err  api.Errno
}

// Error makes an error of a fault, so that it can be asked for as one.
func (f fault) Error() string { return "line " + number(f.line) + ": error " + number(f.err) }

// caught hands on the fault by which a reader left; whatever else is thrown is no text's fault.
func caught(left any) fault {
	if thrown, ok := left.(error); ok {
		var f fault
		if errors.As(thrown, &f) {
			return f
		}
	}
	panic(left)
}
