package image_test

import (
	"testing"

	"shoebox/api"
	"shoebox/image"
)

// P2.4: the turn from a place to another one.
func TestTurnTo(t *testing.T) {
	for _, c := range []struct {
		from, to api.HallCorner
		want     api.ImageTurn
	}{
		{corner(0, 0), corner(4, -6), turn(2, -3)},
		{corner(4, -6), corner(0, 0), turn(-2, 3)},
		{corner(0, 0), corner(-4, -6), turn(-2, -3)},
		{corner(1, 1), corner(3, 4), turn(2, 3)},
		{corner(0, 0), corner(7, 0), turn(1, 0)},
		{corner(0, 0), corner(-7, 0), turn(-1, 0)},
		{corner(5, 5), corner(5, 90), turn(0, 1)},
		{corner(5, 5), corner(5, -90), turn(0, -1)},
		{corner(5, 5), corner(6, 6), turn(1, 1)},
		{corner(5, 5), corner(-5, 15), turn(-1, 1)},
		{corner(-45000, -45000), corner(45000, 44999), turn(90000, 89999)},
		{corner(45000, -45000), corner(-45000, 45000), turn(-1, 1)},
	} {
		if x, e := image.TurnTo(c.from, c.to); x != c.want || e != api.OK {
			t.Errorf("from %v to %v: %v, %d, want %v", c.from, c.to, x, e, c.want)
		}
	}
	for _, c := range []struct {
		from, to api.HallCorner
		want     api.Errno
	}{
		{corner(45001, 0), corner(0, 0), api.ErrRange},
		{corner(0, -45001), corner(0, 0), api.ErrRange},
		{corner(leastInt, 0), corner(0, 0), api.ErrRange},
		{corner(0, 0), corner(0, 45001), api.ErrRange},
		{corner(0, 0), corner(-45001, 0), api.ErrRange},
		{corner(0, 0), corner(0, leastInt), api.ErrRange},
		{corner(45001, 0), corner(45001, 0), api.ErrRange},
		{corner(0, 0), corner(0, 0), api.ErrZero},
		{corner(45000, -45000), corner(45000, -45000), api.ErrZero},
	} {
		if x, e := image.TurnTo(c.from, c.to); x != (api.ImageTurn{}) || e != c.want {
			t.Errorf("from %v to %v: %v, %d, want %d", c.from, c.to, x, e, c.want)
		}
	}
}

// P2.4: what lies strictly between two turns, going counter-clockwise by less than half a turn.
func TestBetween(t *testing.T) {
	for _, c := range []struct {
		a, b, x api.ImageTurn
		want    bool
	}{
		{turn(1, 0), turn(0, 1), turn(1, 5), true},
		{turn(1, 0), turn(0, 1), turn(1, 0), false},
		{turn(1, 0), turn(0, 1), turn(0, 1), false},
		{turn(1, 0), turn(0, 1), turn(1, -5), false},
		{turn(1, 0), turn(0, 1), turn(-1, 5), false},
		{turn(1, 0), turn(0, 1), turn(-1, -5), false},
		{turn(1, 0), turn(0, 1), turn(-1, 0), false},
		{turn(0, 1), turn(1, 0), turn(1, 1), false},
		{turn(0, 1), turn(1, 0), turn(-1, -1), false},
		{turn(0, 1), turn(1, 0), turn(-1, 1), false},
		{turn(1, 0), turn(-1, 0), turn(0, 1), false},
		{turn(1, 0), turn(-1, 0), turn(0, -1), false},
		{turn(1, 0), turn(1, 0), turn(0, 1), false},
		{turn(1, 0), turn(1, 0), turn(1, 0), false},
		{turn(3, -2), turn(-3, 2), turn(1, 1), false},
		{turn(1, 0), turn(-1, 1), turn(0, 1), true},
		{turn(1, 0), turn(-100000, 1), turn(-99999, 1), true},
		{turn(1, 0), turn(-100000, 1), turn(-99999, 2), true},
		{turn(1, 0), turn(-99999, 1), turn(-100000, 1), false},
		{turn(1, 0), turn(-1, -1), turn(0, 1), false},
		{turn(1, -1), turn(1, 1), turn(1, 0), true},
		{turn(-1, 1), turn(-1, -1), turn(-1, 0), true},
		{turn(-1, 0), turn(0, -1), turn(-1, -1), true},
		{turn(0, -1), turn(1, 0), turn(1, -1), true},
		{turn(100000, 99999), turn(99999, 99998), turn(1, 1), false},
		{turn(100000, 99999), turn(1, 1), turn(99999, 99998), false},
		{turn(99999, 99998), turn(1, 1), turn(100000, 99999), true},
	} {
		if is, e := image.Between(c.a, c.b, c.x); is != c.want || e != api.OK {
			t.Errorf("%v, %v, %v: %v, %d", c.a, c.b, c.x, is, e)
		}
	}
}

// turnErrors is what is wrong with turns.
var turnErrors = []struct {
	x    api.ImageTurn
	want api.Errno
}{
	{turn(1, 0), api.OK},
	{turn(0, -1), api.OK},
	{turn(-3, 2), api.OK},
	{turn(100000, -99999), api.OK},
	{turn(1, 100000), api.OK},
	{turn(1, -100000), api.OK},
	{turn(-100000, 1), api.OK},
	{turn(0, 0), api.ErrForm},
	{turn(2, 0), api.ErrForm},
	{turn(0, -2), api.ErrForm},
	{turn(2, 4), api.ErrForm},
	{turn(-3, 6), api.ErrForm},
	{turn(-15, -35), api.ErrForm},
	{turn(200000, 2), api.ErrForm},
	{turn(leastInt, 0), api.ErrForm},
	{turn(0, leastInt), api.ErrForm},
	{turn(leastInt, leastInt), api.ErrForm},
	{turn(leastInt, 2), api.ErrForm},
	{turn(100001, 1), api.ErrRange},
	{turn(-100001, 2), api.ErrRange},
	{turn(1, 100001), api.ErrRange},
	{turn(1, -100001), api.ErrRange},
	{turn(leastInt, 1), api.ErrRange},
	{turn(leastInt, -1), api.ErrRange},
	{turn(-1, leastInt), api.ErrRange},
	{turn(3, leastInt), api.ErrRange},
}

// P2.4: the errors of turns, wherever they stand; those of the first one first.
func TestTurnErrors(t *testing.T) {
	a, b := turn(1, 0), turn(0, 1)
	for _, c := range turnErrors {
		_, e := image.Between(c.x, a, b)
		wantErrno(t, "the first turn", e, c.want)
		_, e = image.Between(a, c.x, b)
		wantErrno(t, "the second turn", e, c.want)
		_, e = image.Between(a, b, c.x)
		wantErrno(t, "the third turn", e, c.want)
		w, e := image.Follow(box(), corner(500, 1000), c.x, 0)
		wantErrno(t, "Follow", e, c.want)
		if len(w) > 0 {
			t.Errorf("Follow %v: %v", c.x, w)
		}
	}
	is, e := image.Between(turn(2, 2), turn(100001, 1), turn(0, 0))
	wantErrno(t, "the first turn first", e, api.ErrForm)
	other, e := image.Between(turn(100001, 1), turn(2, 2), turn(0, 0))
	wantErrno(t, "the first turn first, the other way", e, api.ErrRange)
	third, e := image.Between(a, turn(100001, 1), turn(0, 0))
	wantErrno(t, "the second turn ahead of the third one", e, api.ErrRange)
	if is || other || third {
		t.Errorf("true beside an error")
	}
}
