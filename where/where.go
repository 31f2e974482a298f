// Package where: cells, neighbours, sectors (layer 1).
package where

import "herdsman/api"

// May tells whether a map may be w cells across and h down.
func May(w, h int) bool {
	return 1 <= w && w <= api.MaxSide && 1 <= h && h <= api.MaxSide
}

// Cell is the number of the cell at x, y; -1 if there is none.
func Cell(w, h, x, y int) int {
	if !May(w, h) || x < 0 || x >= w || y < 0 || y >= h {
		return -1
	}
	return y*w + x
}

// Place is the x and y of a cell; -1, -1 of no cell.
func Place(w, h, cell int) (x, y int) {
	if !isCell(w, h, cell) {
		return -1, -1
	}
	return cell % w, cell / w
}

// Step is the cell beside a cell at a side, or the cell itself at Here; -1 if there is none.
func Step(w, h, cell, side int) int {
	if !isCell(w, h, cell) {
		return -1
	}
	x, y := Place(w, h, cell)
	away := 1
	switch side {
	case api.North: // South, backwards
		away = -1
		fallthrough
	case api.South:
		y += away
	case api.West: // East, backwards
		away = -1
		fallthrough
	case api.East:
		x += away
	case api.Here:
	default:
		return -1
	}
	return Cell(w, h, x, y)
}

// Side is the side by which Step leads from a to b, Here if they are one; None if none does.
func Side(w, h, a, b int) int {
	if !isCell(w, h, b) { // or else Step's -1 would meet a b of -1
		return api.None
	}
	for side := api.North; side <= api.Here; side++ {
		if Step(w, h, a, side) == b {
			return side
		}
	}
	return api.None
}

// Back is the side that leads back; Here of Here, None of what is no side.
func Back(side int) int {
	switch side {
	case api.North:
		return api.South
	case api.East:
		return api.West
	case api.South:
		return api.North
	case api.West:
		return api.East
	case api.Here:
		return api.Here
	}
	return api.None
}

// Sectors is how many sectors there are across and down; 0, 0 of a map that may not be.
func Sectors(w, h int) (across, down int) {
	if !May(w, h) {
		return 0, 0
	}
	return spans(w), spans(h)
}

// Sector is the sector that a cell is in; -1 of no cell.
func Sector(w, h, cell int) int {
	if !isCell(w, h, cell) {
		return -1
	}
	x, y := Place(w, h, cell)
	return y/api.Span*spans(w) + x/api.Span
}

// Size is a sector's cells across and down; 0, 0 of no sector.
func Size(w, h, sector int) (tw, th int) {
	if !isSector(w, h, sector) {
		return 0, 0
	}
	x, y := corner(w, sector)
	return min(w-x, api.Span), min(h-y, api.Span)
}

// Local is a cell's number within its sector; -1 of no cell.
func Local(w, h, cell int) int {
	if !isCell(w, h, cell) {
		return -1
	}
	x, y := Place(w, h, cell)
	tw, _ := Size(w, h, Sector(w, h, cell))
	return y%api.Span*tw + x%api.Span
}

// Global is the cell that has a local number within a sector; -1 if there is none.
func Global(w, h, sector, local int) int {
	tw, th := Size(w, h, sector)
	if local < 0 || local >= tw*th {
		return -1
	}
	x, y := corner(w, sector)
	return Cell(w, h, x+local%tw, y+local/tw)
}

func isCell(w, h, cell int) bool {
	return May(w, h) && 0 <= cell && cell < w*h
}

func isSector(w, h, sector int) bool {
	across, down := Sectors(w, h)
	return 0 <= sector && sector < across*down
}

// spans is how many sectors lie along a side of a map; the last one may be short, so it rounds up.
func spans(side int) int {
	return (side + api.Span - 1) / api.Span
}

// corner is the place of a sector's north-western cell.
func corner(w, sector int) (x, y int) {
	across := spans(w)
	return sector % across * api.Span, sector / across * api.Span
}
