package trawl

import (
	"codend/api"
)

// Sum returns the pull and the moment of loads.
func Sum(l []Load) (int, int, api.Errno) {
	if e := checkLoads(l); e != api.OK {
		return 0, 0, e
	}
	pull, moment := sumOf(l)
	return pull, moment, api.OK
}

func sumOf(l []Load) (int, int) {
	pull, moment := 0, 0
	for _, x := range l {
		pull += x.Pull
		moment += x.Pull * x.Arm
	}
	return pull, moment
}

// Floats returns the least numbers of floats that balance loads.
func Floats(l []Load, lift, arm int) ([2]int, api.Errno) {
	if e := first(checkLoads(l), checkRange(lift, 1, MaxPull), checkRange(arm, 1, MaxArm)); e != api.OK {
		return [2]int{}, e
	}
	pull, moment := sumOf(l)
	if moment%(lift*arm) != 0 {
		return [2]int{}, api.ErrInfeasible
	}
	// The moment alone says how many more floats are at the arm than opposite to it.
	more := -moment / (lift * arm)
	count := max(more, -more, upTo(-pull, lift))
	if isOdd(count - more) {
		count++
	}
	if count > MaxFloats {
		return [2]int{}, api.ErrMany
	}
	return [2]int{(count - more) / 2, (count + more) / 2}, api.OK
}

// upTo returns the least number of floats whose lifts reach a pull.
func upTo(pull, lift int) int {
	if pull <= 0 {
		return 0
	}
	return (pull + lift - 1) / lift
}
