package bale_test

import (
	"strings"
	"testing"

	"codend/api"
	"codend/bale"
)

func TestPrint(t *testing.T) {
	for _, row := range []struct {
		plan []bale.Place
		s    string
	}{
		{nil, ""},
		{places(up(0, 0), up(1, 6)), "wing up 0\ndoor up 6\n"},
		{places(down(1, -6), up(0, 0)), "door down -6\nwing up 0\n"},
		{places(down(0, 100000), down(1, -100000)), "wing down 100000\ndoor down -100000\n"},
	} {
		s, e := bale.Print(examples(), row.plan)
		want(t, "Print", s, row.s)
		want(t, "Print: error", e, api.OK)
		plan, index, e := bale.Parse(examples(), row.s)
		want(t, "Parse", plan, row.plan)
		want(t, "Parse: index and error", []int{index, int(e)}, []int{0, 0})
	}
}

func TestParseErrors(t *testing.T) {
	long := strings.Repeat("a", 4096-len("wing up 0\n up 0\n"))
	for _, row := range []struct {
		s     string
		index int
		e     api.Errno
	}{
		{"wing up 0", 0, api.ErrSyntax},
		{"wing up 0\ndoor up 6", 1, api.ErrSyntax},
		{"\n", 0, api.ErrSyntax},
		{"wing up 0\n\n", 1, api.ErrSyntax},
		{"\nwing up 0\n", 0, api.ErrSyntax},
		{"wing\n", 0, api.ErrSyntax},
		{"wing up\n", 0, api.ErrSyntax},
		{"wing up 0 0\n", 0, api.ErrSyntax},
		{"wing up 0 \n", 0, api.ErrSyntax},
		{" wing up 0\n", 0, api.ErrSyntax},
		{"wing  up 0\n", 0, api.ErrSyntax},
		{"wing up  0\n", 0, api.ErrSyntax},
		{" up 0\n", 0, api.ErrSyntax},
		{"wing  0\n", 0, api.ErrSyntax},
		{"wing side 0\n", 0, api.ErrSyntax},
		{"wing Up 0\n", 0, api.ErrSyntax},
		{"wing upright 0\n", 0, api.ErrSyntax},
		{"wing up 0\r\n", 0, api.ErrSyntax},
		{"wing\tup 0\n", 0, api.ErrSyntax},
		{"wing up -0\n", 0, api.ErrSyntax},
		{"wing up 00\n", 0, api.ErrSyntax},
		{"wing up 02\n", 0, api.ErrSyntax},
		{"wing up -02\n", 0, api.ErrSyntax},
		{"wing up +2\n", 0, api.ErrSyntax},
		{"wing up --2\n", 0, api.ErrSyntax},
		{"wing up -\n", 0, api.ErrSyntax},
		{"wing up 2.0\n", 0, api.ErrSyntax},
		{"wing up 1_0\n", 0, api.ErrSyntax},
		{"wing up 0x2\n", 0, api.ErrSyntax},
		{"wing up two\n", 0, api.ErrSyntax},
		{"wing up \u0662\n", 0, api.ErrSyntax},
		{"wing up 1000000\n", 0, api.ErrSyntax},
		{"wing up -1000000\n", 0, api.ErrSyntax},
		{"wing up 99999999999999999999\n", 0, api.ErrSyntax},
		{"hood side 0\n", 0, api.ErrSyntax}, // before the name
		{"hood up 0", 0, api.ErrSyntax},
		{"hood up 0\n", 0, api.ErrUnknown},
		{"Wing up 0\n", 0, api.ErrUnknown},
		{"wing\r up 0\n", 0, api.ErrUnknown},
		{"\u00e9\xff\x00 up 0\n", 0, api.ErrUnknown},
		{"hood up 100001\n", 0, api.ErrUnknown},
		{"wing up 0\nhood up 0\nside\n", 1, api.ErrUnknown},
		{"wing up 0\nwing up 2\n", 1, api.ErrTwice},
		{"wing up 0\ndoor down 6\nwing down 0\nhood\n", 2, api.ErrTwice},
		{"wing up 0\nwing up 100001\n", 1, api.ErrTwice},
		{"wing up 0\nwing up 1\n", 1, api.ErrTwice},
		{"wing up 100001\n", 0, api.ErrRange},
		{"wing up 100002\n", 0, api.ErrRange},
		{"wing up 999999\n", 0, api.ErrRange},
		{"wing up -100001\n", 0, api.ErrRange},
		{"wing up -999999\n", 0, api.ErrRange},
		{"wing up 1\n", 0, api.ErrLattice},
		{"wing up 0\ndoor up -99999\n", 1, api.ErrLattice},
		{"wing up 0\n" + long + " up 0\n", 1, api.ErrUnknown},
		{"wing up 0\n" + long + "a up 0\n", 0, api.ErrLong},
		{strings.Repeat("\n", 4096), 0, api.ErrSyntax},
		{strings.Repeat("\n", 4097), 0, api.ErrLong},
	} {
		plan, index, e := bale.Parse(examples(), row.s)
		want(t, "Parse of "+row.s, plan, []bale.Place(nil))
		want(t, "Parse of "+row.s+": index", index, row.index)
		want(t, "Parse of "+row.s+": error", e, row.e)
	}
}

func TestParseOfBadPieces(t *testing.T) {
	for _, bad := range badPieceLists() {
		for _, s := range []string{"", "side", strings.Repeat("a", 4097)} {
			plan, index, e := bale.Parse(bad.l, s)
			want(t, "Parse", plan, []bale.Place(nil))
			want(t, "Parse: index and error", []int{index, int(e)}, []int{0, int(bad.e)})
		}
	}
	_, index, e := bale.Parse(nil, "wing up 0\n")
	want(t, "Parse without pieces: index and error", []int{index, int(e)}, []int{0, int(api.ErrUnknown)})
}
