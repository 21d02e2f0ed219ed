package trawl_test

import (
	"testing"

	"codend/api"
	"codend/trawl"
)

func TestCheckTrawl(t *testing.T) {
	for _, l := range judgedTrawls() {
		want(t, "CheckTrawl", trawl.CheckTrawl(l.x), l.e)
	}
}

// pair is two results beside an error.
type pair[T, U any] struct {
	one T
	two U
}

// TestErrorsOfTrawlsComeFirst calls everything that has a trawl; the other arguments are wrong, too.
func TestErrorsOfTrawlsComeFirst(t *testing.T) {
	none := end(-1, 99)
	for _, l := range judgedTrawls() {
		check := func(what string, result any, e api.Errno) {
			t.Helper()
			if l.e != api.OK {
				wantOnly(t, what, result, e, l.e)
			}
		}
		plain := func(what string, result any, e api.Errno) {
			t.Helper()
			check(what, result, e)
			if l.e == api.OK {
				want(t, what+": error", e, api.OK)
			}
		}
		free, e := trawl.Free(l.x)
		plain("Free", free, e)
		corners, e := trawl.Corners(l.x)
		plain("Corners", corners, e)
		pieces, e := trawl.Pieces(l.x)
		plain("Pieces", pieces, e)
		counts, e := trawl.Count(l.x)
		plain("Count", counts, e)
		openings, e := trawl.Openings(l.x)
		plain("Openings", openings, e)
		kinds, e := trawl.Kinds(l.x)
		plain("Kinds", kinds, e)
		mate, twist, e := trawl.Mate(l.x, none)
		check("Mate", pair[trawl.End, bool]{mate, twist}, e)
		mouth, meshes, e := trawl.Mouth(l.x)
		check("Mouth", pair[[]trawl.End, int]{mouth, meshes}, e)
		signs, e := trawl.Signs(l.x)
		check("Signs", signs, e)
		way, e := trawl.Twist(l.x)
		check("Twist", way, e)
		check("CheckTwist", 0, trawl.CheckTwist(l.x, trawl.Way{Panel: -1, Seams: make([]int, 257)}))
		heights, e := trawl.Heights(l.x)
		check("Heights", heights, e)
		above, e := trawl.Between(l.x, none, none)
		check("Between", above, e)
		clash, e := trawl.Clash(l.x)
		check("Clash", clash, e)
		check("CheckClash", 0, trawl.CheckClash(l.x, make([]trawl.Step, 257)))
		more, e := trawl.Sew(l.x, trawl.Seam{A: none, B: none})
		check("Sew", more, e)
		less, e := trawl.Unsew(l.x, -1)
		check("Unsew", less, e)
		flipped, e := trawl.Flip(l.x, -1)
		check("Flip", flipped, e)
	}
}
