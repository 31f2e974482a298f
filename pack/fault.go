package pack

import (
	"errors"
	"strconv"

	"herdsman/api"
)

// What bytes may be refused for.
var (
	errEnd      = errors.New("the bytes end too early")
	errNoForm   = errors.New("there is no such form")
	errZero     = errors.New("a cost of 0")
	errBeyond   = errors.New("a run goes on beyond the last cell")
	errAgain    = errors.New("a run has the cost of the run ahead of it")
	errWasteful = errors.New("another form is the one to write")
)

// fault is what bytes are refused for, with the place where it is.
type fault struct {
	at   int
	code int
	of   error
}

// Error tells what is wrong, and at which byte.
func (f *fault) Error() string {
	return f.of.Error() + ", at byte " + strconv.Itoa(f.at)
}

// Unwrap is what is wrong, wherever it is.
func (f *fault) Unwrap() error {
	return f.of
}

// faultAt wraps what is wrong at a place: only bytes that end are short, all else is bytes that nobody writes so.
func faultAt(at int, of error) error {
	code := api.ErrForm
	if errors.Is(of, errEnd) {
		code = api.ErrShort
	}
	return &fault{at: at, code: code, of: of}
}

// codeOf is the code of what went wrong; OK where nothing did.
func codeOf(err error) int {
	var f *fault
	if errors.As(err, &f) {
		return f.code
	}
	return api.OK
}
