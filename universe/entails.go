package universe

import (
	"slices"

	"euclid/api"
	"euclid/level"
)

// Entails reports whether b follows from the bounds.
func Entails(bounds []api.Bound, b api.Bound) (bool, api.Errno) {
	if err := checkEntails(bounds, b); err != api.OK {
		return false, err
	}
	known := natural()
	for _, given := range bounds {
		for low := range parts(given.Low) {
			known.require(low, given.High, 0)
		}
	}
	// A part of b.Low that exceeds all parts of b.High refutes b.
	for low := range parts(b.Low) {
		refuted := known
		for high := range parts(b.High) {
			refuted.require(high, low, 1)
		}
		if refuted.possible() {
			return false, api.OK
		}
	}
	return true, api.OK
}

func checkEntails(bounds []api.Bound, b api.Bound) api.Errno {
	all := slices.Concat(bounds, []api.Bound{b})
	for _, x := range all {
		if !level.Valid(x.Low) || !level.Valid(x.High) {
			return api.ErrForm
		}
	}
	for _, x := range all {
		if metaCount(x.Low) > 0 || metaCount(x.High) > 0 {
			return api.ErrMeta
		}
	}
	for _, x := range bounds {
		if !isPart(x.High) {
			return api.ErrArg
		}
	}
	return api.OK
}

func isPart(l api.Level) bool {
	return len(l.Vars) == 0 || len(l.Vars) == 1 && l.Const == 0
}

// far stands for the distance of values between which nothing is required.
const far = 1 << 30

// zero is the row and the column of the number 0 among those of the parameters.
const zero = api.MaxParams

// distances[i][j] is the most by which the value of i may exceed that of j.
type distances [api.MaxParams + 1][api.MaxParams + 1]int

// natural requires only that the parameters are natural numbers.
func natural() distances {
	var d distances
	for i := range d {
		for j := range d {
			if i != zero && i != j {
				d[i][j] = far
			}
		}
	}
	return d
}

// require demands that the part low plus gap is at most the part high.
func (d *distances) require(low, high api.Level, gap int) {
	i, plus := place(low)
	j, over := place(high)
	d[i][j] = min(d[i][j], over-plus-gap)
}

// place returns the row of a part, and its offset.
func place(part api.Level) (int, int) {
	if len(part.Vars) == 0 {
		return zero, part.Const
	}
	return part.Vars[0].Index, part.Vars[0].Plus
}

// possible reports whether some natural numbers keep all distances. They do
// unless a cycle of distances has a negative sum.
func (d distances) possible() bool {
	for k := range d {
		for i := range d {
			for j := range d {
				if d[i][k] < far && d[k][j] < far {
					d[i][j] = min(d[i][j], d[i][k]+d[k][j])
				}
			}
			// Going on would only make the sums grow without end.
			if d[i][i] < 0 {
				return false
			}
		}
	}
	return true
}
