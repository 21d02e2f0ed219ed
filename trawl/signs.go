package trawl

import (
	"codend/api"
)

func isOdd(n int) bool {
	return n%2 != 0
}

// panelWeb reaches the panels by seams, of which a twisted one has the rise 1: panels at an odd rise have the sign -1.
func (t Trawl) panelWeb() web {
	return newWeb(len(t.Panels), transformed(t.Seams, Seam.link))
}

func (s Seam) link() link {
	l := link{ends: s.panels()}
	if s.Twisted {
		l.rise = 1
	}
	return l
}

// twist returns a way round that proves that there are no signs, or nothing.
func (t Trawl) twist() []hop {
	return t.panelWeb().contradiction(isOdd)
}

// Signs returns on which side of the trawl each panel shows its face.
func Signs(t Trawl) ([]int, api.Errno) {
	if e := CheckTrawl(t); e != api.OK {
		return nil, e
	}
	w := t.panelWeb()
	if len(w.contradiction(isOdd)) > 0 {
		return nil, api.ErrConflict
	}
	return transformed(w.reached, reach.sign), api.OK
}

func (r reach) sign() int {
	if isOdd(r.rise) {
		return -1
	}
	return 1
}

// Twist returns a way round that proves that there are no signs.
func Twist(t Trawl) (Way, api.Errno) {
	if e := CheckTrawl(t); e != api.OK {
		return Way{}, e
	}
	hops := t.twist()
	if len(hops) == 0 {
		return Way{}, api.ErrNone
	}
	return Way{Panel: t.beginning(hops[0]), Seams: transformed(hops, func(h hop) int { return h.link })}, api.OK
}

// beginning returns the panel from which a hop leads.
func (t Trawl) beginning(h hop) int {
	if h.back {
		return t.Seams[h.link].B.Panel
	}
	return t.Seams[h.link].A.Panel
}

// CheckTwist returns OK if a way round proves that there are no signs.
func CheckTwist(t Trawl, w Way) api.Errno {
	if e := first(CheckTrawl(t), t.checkWay(w)); e != api.OK {
		return e
	}
	panel, twists := w.Panel, 0
	for _, i := range w.Seams {
		s := t.Seams[i]
		switch panel {
		case s.A.Panel:
			panel = s.B.Panel
		case s.B.Panel:
			panel = s.A.Panel
		default:
			return api.ErrProof
		}
		twists += s.link().rise
	}
	if panel != w.Panel || !isOdd(twists) {
		return api.ErrProof
	}
	return api.OK
}

func (t Trawl) checkWay(w Way) api.Errno {
	// ErrMany comes before every ErrUnknown, and the order of these makes no difference.
	seams := checkList(w.Seams, api.MaxList, func(_ []int, seam int) api.Errno { return checkIndex(seam, len(t.Seams)) })
	return first(seams, checkIndex(w.Panel, len(t.Panels)))
}
