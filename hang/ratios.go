package hang

import (
	"codend/api"
)

func commonDivisor(a, b int) int {
	for b != 0 {
		a, b = b, a%b
	}
	return a
}

// lowest returns the numerator and the denominator of a quotient in lowest terms.
func lowest(num, den int) [2]int {
	by := commonDivisor(num, den)
	return [2]int{num / by, den / by}
}

func ratioOf(num, den int) api.Ratio {
	parts := lowest(num, den)
	return api.Ratio{Num: parts[0], Den: parts[1]}
}

func squareOf(num, den int) Square {
	parts := lowest(num, den)
	return Square{Num: parts[0], Den: parts[1]}
}

// transformed returns a list with each element changed.
func transformed[T, U any](l []T, change func(T) U) []U {
	out := make([]U, 0, len(l))
	for _, x := range l {
		out = append(out, change(x))
	}
	return out
}

// stretched returns how long meshes are that are stretched.
func stretched(bar, meshes int) int {
	return 2 * bar * meshes
}

// Hanging returns the hanging ratio of meshes on a rope.
func Hanging(rope, bar, meshes int) (api.Ratio, api.Errno) {
	if err := first(checkRange(rope, 1, MaxRope), checkBar(bar), checkMeshes(meshes)); err != api.OK {
		return api.Ratio{}, err
	}
	full := stretched(bar, meshes)
	if rope > full {
		return api.Ratio{}, api.ErrInfeasible
	}
	e := ratioOf(rope, full)
	if e.Den > MaxParts {
		return api.Ratio{}, api.ErrLarge
	}
	return e, api.OK
}

// Width returns the length of the rope for meshes.
func Width(e api.Ratio, bar, meshes int) (api.Ratio, api.Errno) {
	if err := checkHung(e, bar, meshes); err != api.OK {
		return api.Ratio{}, err
	}
	return ratioOf(stretched(bar, meshes)*e.Num, e.Den), api.OK
}

// Secondary returns the square of the vertical ratio.
func Secondary(e api.Ratio) (Square, api.Errno) {
	if err := CheckRatio(e); err != api.OK {
		return Square{}, err
	}
	return upright(e, 1), api.OK
}

// upright returns the square of a length, times that of the vertical ratio.
func upright(e api.Ratio, length int) Square {
	return squareOf(length*length*(e.Den*e.Den-e.Num*e.Num), e.Den*e.Den)
}

// Height returns the square of the height of opened netting.
func Height(e api.Ratio, bar, meshes int) (Square, api.Errno) {
	if err := checkHung(e, bar, meshes); err != api.OK {
		return Square{}, err
	}
	return upright(e, stretched(bar, meshes)), api.OK
}

// Fullness returns the square of the opened area of a mesh, compared with the greatest one.
func Fullness(e api.Ratio) (Square, api.Errno) {
	if err := CheckRatio(e); err != api.OK {
		return Square{}, err
	}
	return fullness(e), api.OK
}

func fullness(e api.Ratio) Square {
	wide, all := e.Num*e.Num, e.Den*e.Den
	return squareOf(4*wide*(all-wide), all*all)
}
