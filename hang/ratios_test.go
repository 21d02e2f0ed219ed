package hang_test

import (
	"testing"

	"codend/api"
	"codend/hang"
)

func TestCheckRatio(t *testing.T) {
	for _, r := range judgedRatios() {
		want(t, "CheckRatio", hang.CheckRatio(r.x), r.e)
	}
}

// TestCheckRatioByDefinition tries all small numerators and denominators.
func TestCheckRatioByDefinition(t *testing.T) {
	for num := -2; num <= 33; num++ {
		for den := -2; den <= 33; den++ {
			wanted := firstOf(inRange(num, 1, 30), inRange(den, 1, 30))
			switch {
			case wanted == api.OK && num > den:
				wanted = api.ErrOrder
			case wanted == api.OK && !isReduced(num, den):
				wanted = api.ErrForm
			}
			want(t, "CheckRatio", hang.CheckRatio(ratio(num, den)), wanted)
		}
	}
}

func TestCheckSquare(t *testing.T) {
	for _, s := range judgedSquares() {
		want(t, "CheckSquare", hang.CheckSquare(s.x), s.e)
	}
}

// TestCheckSquareByDefinition tries all small numerators and denominators.
func TestCheckSquareByDefinition(t *testing.T) {
	for num := -2; num <= 60; num++ {
		for den := -2; den <= 60; den++ {
			wanted := api.OK
			if num < 0 || den < 1 {
				wanted = api.ErrRange
			} else if !isReduced(num, den) {
				wanted = api.ErrForm
			}
			want(t, "CheckSquare", hang.CheckSquare(square(num, den)), wanted)
		}
	}
}

func TestHanging(t *testing.T) {
	for _, row := range []struct {
		rope, bar, meshes int
		r                 api.Ratio
		e                 api.Errno
	}{
		{500, 50, 10, ratio(1, 2), api.OK},
		{1000, 50, 10, ratio(1, 1), api.OK},
		{600, 50, 10, ratio(3, 5), api.OK},
		{601, 50, 10, api.Ratio{}, api.ErrLarge},
		{1001, 50, 10, api.Ratio{}, api.ErrInfeasible},
		{1, 1, 1, ratio(1, 2), api.OK},
		{2, 1, 1, ratio(1, 1), api.OK},
		{3, 1, 1, api.Ratio{}, api.ErrInfeasible},
		{60000, 100, 300, ratio(1, 1), api.OK},
		{58000, 100, 300, ratio(29, 30), api.OK},
		{2000, 100, 300, ratio(1, 30), api.OK},
		{1, 15, 1, ratio(1, 30), api.OK},
		{1, 16, 1, api.Ratio{}, api.ErrLarge},
		{60000, 100, 299, api.Ratio{}, api.ErrInfeasible},
		{60000, 1, 1, api.Ratio{}, api.ErrInfeasible},
		{60, 31, 1, api.Ratio{}, api.ErrLarge}, // 30/31
	} {
		r, e := hang.Hanging(row.rope, row.bar, row.meshes)
		want(t, "Hanging", r, row.r)
		wantOnly(t, "Hanging", r, e, row.e)
	}
	for _, n := range ends(1, 60000) {
		for _, bar := range ends(1, 100) {
			for _, meshes := range ends(1, 300) {
				if wanted := firstOf(inRange(n, 1, 60000), inRange(bar, 1, 100), inRange(meshes, 1, 300)); wanted != api.OK {
					r, e := hang.Hanging(n, bar, meshes)
					wantOnly(t, "Hanging", r, e, wanted)
				}
			}
		}
	}
}

func TestHangingByDefinition(t *testing.T) {
	for bar := 1; bar <= 100; bar += 9 {
		for _, meshes := range []int{1, 2, 7, 30, 211} {
			for n := 1; n < 2*bar*meshes+3 && n <= 60000; n += 1 + meshes/30 {
				x, wanted, code := exact(n, 2*bar*meshes), api.Ratio{}, api.OK
				switch {
				case n > 2*bar*meshes:
					code = api.ErrInfeasible
				case x.Denom().Int64() > 30:
					code = api.ErrLarge
				default:
					wanted = ratioOf(x)
				}
				r, e := hang.Hanging(n, bar, meshes)
				want(t, "Hanging", r, wanted)
				want(t, "Hanging: error", e, code)
			}
		}
	}
}

func TestSecondaryAndFullness(t *testing.T) {
	for _, row := range []struct {
		r              api.Ratio
		upright, fully hang.Square
	}{
		{ratio(3, 5), square(16, 25), square(576, 625)},
		{ratio(4, 5), square(9, 25), square(576, 625)},
		{ratio(1, 2), square(3, 4), square(3, 4)},
		{ratio(1, 1), square(0, 1), square(0, 1)},
		{ratio(5, 7), square(24, 49), square(2400, 2401)},
		{ratio(1, 30), square(899, 900), square(899, 202500)},
		{ratio(29, 30), square(59, 900), square(49619, 202500)},
		{ratio(1, 29), square(840, 841), square(3360, 707281)},
	} {
		s, e := hang.Secondary(row.r)
		want(t, "Secondary", s, row.upright)
		want(t, "Secondary: error", e, api.OK)
		s, e = hang.Fullness(row.r)
		want(t, "Fullness", s, row.fully)
		want(t, "Fullness: error", e, api.OK)
	}
	for _, r := range judgedRatios() {
		s, e := hang.Secondary(r.x)
		wantOnly(t, "Secondary", s, e, r.e)
		s, e = hang.Fullness(r.x)
		wantOnly(t, "Fullness", s, e, r.e)
	}
}

func TestSecondaryAndFullnessByDefinition(t *testing.T) {
	for _, r := range allRatios(30) {
		wide := product(ofRatio(r), ofRatio(r))
		s, e := hang.Secondary(r)
		want(t, "Secondary", s, squareOf(rest(wide)))
		want(t, "Secondary: error", e, api.OK)
		s, e = hang.Fullness(r)
		want(t, "Fullness", s, squareOf(product(exact(4, 1), wide, rest(wide))))
		want(t, "Fullness: error", e, api.OK)
	}
}

func TestWidthAndHeight(t *testing.T) {
	for _, row := range []struct {
		r           api.Ratio
		bar, meshes int
		width       api.Ratio
		height      hang.Square
	}{
		{ratio(1, 2), 50, 10, ratio(500, 1), square(750000, 1)},
		{ratio(1, 1), 50, 10, ratio(1000, 1), square(0, 1)},
		{ratio(2, 3), 5, 1, ratio(20, 3), square(500, 9)},
		{ratio(1, 30), 1, 1, ratio(1, 15), square(899, 225)},
		{ratio(1, 30), 100, 300, ratio(2000, 1), square(3596000000, 1)},
		{ratio(1, 29), 100, 300, ratio(60000, 29), square(3024000000000, 841)},
		{ratio(29, 30), 100, 300, ratio(58000, 1), square(236000000, 1)},
		{ratio(1, 1), 100, 300, ratio(60000, 1), square(0, 1)},
		{ratio(3, 5), 100, 300, ratio(36000, 1), square(2304000000, 1)},
	} {
		w, e := hang.Width(row.r, row.bar, row.meshes)
		want(t, "Width", w, row.width)
		want(t, "Width: error", e, api.OK)
		h, e := hang.Height(row.r, row.bar, row.meshes)
		want(t, "Height", h, row.height)
		want(t, "Height: error", e, api.OK)
	}
}

func TestWidthAndHeightErrors(t *testing.T) {
	for _, r := range judgedRatios() {
		for _, bar := range ends(1, 100) {
			for _, meshes := range ends(1, 300) {
				wanted := firstOf(r.e, inRange(bar, 1, 100), inRange(meshes, 1, 300))
				w, e := hang.Width(r.x, bar, meshes)
				wantOnly(t, "Width", w, e, wanted)
				h, e := hang.Height(r.x, bar, meshes)
				wantOnly(t, "Height", h, e, wanted)
			}
		}
	}
}

func TestWidthAndHeightByDefinition(t *testing.T) {
	for _, r := range allRatios(30) {
		for _, bar := range []int{1, 6, 35, 99, 100} {
			for _, meshes := range []int{1, 2, 13, 15, 299, 300} {
				all := exact(2*meshes*bar, 1)
				w, e := hang.Width(r, bar, meshes)
				want(t, "Width", w, ratioOf(product(all, ofRatio(r))))
				want(t, "Width: error", e, api.OK)
				h, e := hang.Height(r, bar, meshes)
				want(t, "Height", h, squareOf(product(all, all, rest(product(ofRatio(r), ofRatio(r))))))
				want(t, "Height: error", e, api.OK)
			}
		}
	}
}
