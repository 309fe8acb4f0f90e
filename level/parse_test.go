package level_test

import (
	"strings"
	"testing"

	"euclid/api"
	"euclid/level"
)

// P1.2
func TestParse(t *testing.T) {
	for _, x := range []struct {
		s    string
		want api.Level
	}{
		{"0", lv(0)},
		{" 100 ", lv(100)},
		{"u7", lv(0, v(7, 0))},
		{"?65535+100", lv(0, v(-65536, 100))},
		{"  u1  +  3  ", lv(0, v(1, 3))},
		{"u1 + 0", lv(0, v(1, 0))},
		{"max(1)", lv(1)},
		{" max ( 1 ) ", lv(1)},
		{" max( u1 , 2, u1+1)", lv(2, v(1, 1))},
		{"max(2,u1+1,?0,1,u1+2,?3+1,u0)", lv(0, v(-4, 1), v(-1, 0), v(0, 0), v(1, 2))},
		{"max(u0 + 1, 1)", lv(0, v(0, 1))},
	} {
		got, err := level.Parse(x.s)
		wantLevel(t, x.s, got, err, x.want, api.OK)
	}
}

// P1.2
func TestParseRefuses(t *testing.T) {
	for _, s := range []string{
		"", " ", "max", "max()", "max(", "max(1", "max(1,", "max(1,)", "max(,1)", "max 1", "max(1))", "max(u0,max(1))",
		"ma x(1)", "Max(1)", "(1)", "1,2", "1 2", "1 + 1", "01", "00", "1234567", "-1", "+1", "u", "?", "u 0", "? 0", "u00", "u0 + ",
		"u0 + u1", "u0 + 1 + 1", "u0 + 01", "u0 + 1234567", "u0 + -1", "u-1", "U0", "v0", "0x1", "1_0", "\t1", "1\n", "1\x00", "u0\u00a0", "\uff11",
		"max(u8, )", "max(101, u)",
	} {
		got, err := level.Parse(s)
		wantLevel(t, s, got, err, api.Level{}, api.ErrSyntax)
	}
	for _, x := range []struct {
		s   string
		err api.Errno
	}{
		{"101", api.ErrLevel},
		{"999999", api.ErrLevel},
		{"u8", api.ErrRange},
		{"u999999 + 999999", api.ErrRange},
		{"?65536", api.ErrRange},
		{"u0 + 101", api.ErrLevel},
		{"max(1, 101, u8)", api.ErrLevel},
		{"max(1, u8, 101)", api.ErrRange},
	} {
		got, err := level.Parse(x.s)
		wantLevel(t, x.s, got, err, api.Level{}, x.err)
	}
}

// P1.2
func TestParseLong(t *testing.T) {
	blank := strings.Repeat(" ", api.MaxText-1)
	got, err := level.Parse(blank + "1")
	wantLevel(t, "the greatest length", got, err, lv(1), api.OK)
	got, err = level.Parse(blank + "1 ")
	wantLevel(t, "a byte more", got, err, lv(0), api.ErrLong)
	got, err = level.Parse(blank + "xx")
	wantLevel(t, "a byte more", got, err, lv(0), api.ErrLong)
}
