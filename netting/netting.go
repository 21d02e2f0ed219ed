// Package netting is layer 1: netting as sets of bars on a lattice of knots. See shared/doc/01-netting.md.
package netting

// Limits of sheets and texts.
const (
	MaxSide  = 256
	MaxBytes = 65536
)

// Mesh is a mesh, by its centre.
type Mesh struct {
	X int
	Y int
}

// Counts is how many knots, bars, meshes, parts and holes a net has.
type Counts struct {
	Knots  int
	Bars   int
	Meshes int
	Parts  int
	Holes  int
}
