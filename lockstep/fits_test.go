package lockstep

import (
	"strings"
	"testing"

	"lockstep/api"
)

func TestP7Fits(t *testing.T) {
	for _, c := range []struct {
		version, asked string
		want           bool
	}{
		{"0.0.0", "*", true},
		{"999.999.999", "*", true},
		{"1.2.3", "=1.2.3", true},
		{"1.2.4", "=1.2.3", false},
		{"1.3.3", "=1.2.3", false},
		{"2.2.3", "=1.2.3", false},
		{"1.2.3", ">=1.2.3", true},
		{"1.2.2", ">=1.2.3", false},
		{"1.1.9", ">=1.2.3", false},
		{"0.9.9", ">=1.2.3", false},
		{"2.0.0", ">=1.2.3", true},
		{"1.10.0", ">=1.9.0", true},
		{"10.0.0", ">=9.0.0", true},
		{"1.2.3", "~1.2.3", true},
		{"1.2.999", "~1.2.3", true},
		{"1.2.2", "~1.2.3", false},
		{"1.3.3", "~1.2.3", false},
		{"2.2.3", "~1.2.3", false},
		{"0.0.4", "~0.0.3", true},
		{"0.1.0", "~0.0.3", false},
		{"1.9.0", "~1.2.3", false},
		{"1.9.0", "^1.2.3", true},
		{"1.2.3", "^1.2.3", true},
		{"1.2.2", "^1.2.3", false},
		{"2.2.3", "^1.2.3", false},
		{"1.0.1", "^1.0.0", true},
		{"1.1.0", "^1.0.5", true},
		{"0.3.1", "^0.3.1", true},
		{"0.3.9", "^0.3.1", true},
		{"0.3.0", "^0.3.1", false},
		{"0.4.0", "^0.3.1", false},
		{"1.3.1", "^0.3.1", false},
		{"0.0.3", "^0.0.3", true},
		{"0.0.4", "^0.0.3", false},
		{"0.0.2", "^0.0.3", false},
		{"0.1.3", "^0.0.3", false},
		{"0.0.0", "^0.0.0", true},
		{"0.0.1", "^0.0.0", false},
		{"999.999.999", "=999.999.999", true},
	} {
		if fits, e := Fits(c.version, c.asked); fits != c.want || e != api.OK {
			t.Errorf("Fits(%q, %q) = %v, %d, want %v", c.version, c.asked, fits, e, c.want)
		}
	}
}

func TestP7FitsRefuses(t *testing.T) {
	noVersions := []string{"", "*", "=1.2.3", "1", "1.2", "1.2.3.4", "1.2.", ".2.3", "1..3", "01.2.3", "1.00.3", "1000.2.3", "1.1000.3", "1.2.1000", "-1.2.3", "1.+2.3", "1.2.x", " 1.2.3", "1.2.3 ", "1.2.3\n", "1,2,3", "1.2.3\x00", strings.Repeat("1", 100000), strings.Repeat(".", 100000)}
	for _, word := range noVersions {
		if fits, e := Fits(word, "*"); fits || e != api.ErrLine {
			t.Errorf("Fits(%.30q, *) = %v, %d", word, fits, e)
		}
		for _, sign := range []string{"=", ">=", "~", "^"} {
			if fits, e := Fits("1.2.3", sign+word); fits || e != api.ErrLine {
				t.Errorf("Fits(1.2.3, %.30q) = %v, %d", sign+word, fits, e)
			}
		}
	}
	for _, word := range []string{"", "1.2.3", "**", "*1.2.3", "* ", " *", ">1.2.3", "<1.2.3", "<=1.2.3", "==1.2.3", "=>1.2.3", "~>1.2.3", "> =1.2.3", "^*", "!=1.2.3", "\xff1.2.3"} {
		if fits, e := Fits("1.2.3", word); fits || e != api.ErrLine {
			t.Errorf("Fits(1.2.3, %q) = %v, %d", word, fits, e)
		}
		if fits, e := Fits("1.2", word); fits || e != api.ErrLine {
			t.Errorf("Fits(1.2, %q) = %v, %d", word, fits, e)
		}
	}
}
