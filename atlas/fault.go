package atlas

import (
	"errors"
	"strconv"

	"herdsman/api"
)

// refusal is why bytes are no map.
type refusal struct {
	code int
	why  string
}

// Error tells what is wrong, with its code.
func (r *refusal) Error() string {
	return r.why + ", code " + strconv.Itoa(r.code)
}

// tileFault is what went wrong in a tile, with the sector of that tile.
type tileFault struct {
	sector int
	of     error
}

// Error tells what is wrong, and in which sector.
func (f *tileFault) Error() string {
	return "in sector " + strconv.Itoa(f.sector) + ": " + f.of.Error()
}

// Unwrap is what is wrong, in whichever sector it is.
func (f *tileFault) Unwrap() error {
	return f.of
}

// inSector wraps what went wrong in a tile with the tile's sector.
func inSector(sector int, of error) error {
	return &tileFault{sector: sector, of: of}
}

// codeOf is the code of what went wrong, in a tile or ahead of all tiles or behind them; OK where nothing did.
func codeOf(err error) int {
	var r *refusal
	if errors.As(err, &r) {
		return r.code
	}
	return api.OK
}
