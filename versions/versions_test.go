package versions

import (
	"strings"
	"testing"
)

func TestParse(t *testing.T) {
	for _, c := range []struct {
		word string
		want Version
	}{{"0.0.0", Version{0, 0, 0}}, {"1.20.300", Version{1, 20, 300}}, {"999.999.999", Version{999, 999, 999}}, {"10.0.100", Version{10, 0, 100}}} {
		if v, err := Parse(c.word); v != c.want || err != nil || v.String() != c.word {
			t.Errorf("Parse(%q) = %v, %v", c.word, v, err)
		}
	}
	for _, word := range []string{"", ".", "..", "...", "1", "1.2", "1.2.", ".1.2", "1..2", "1.2.3.", "1.2.3.4", "00.1.2", "01.2.3", "1.02.3", "1.2.00", "1000.0.0", "0.1000.0", "0.0.1000", "-1.0.0", "+1.0.0", "1.0.-0", "1.0.0x", "a.b.c", "1.2.3\n", " 1.2.3", "1.2.3 ", "1. 2.3", "1_0.0.0", "0x1.0.0", "1.2.３", strings.Repeat("9", 5000) + ".0.0", "18446744073709551616.0.0", strings.Repeat(".", 1<<20)} {
		if v, err := Parse(word); v != (Version{}) || err == nil {
			t.Errorf("Parse(%.30q) = %v, %v", word, v, err)
		}
	}
}

func TestCompare(t *testing.T) {
	rising := []Version{{0, 0, 0}, {0, 0, 9}, {0, 0, 10}, {0, 1, 0}, {0, 9, 99}, {0, 10, 0}, {1, 0, 0}, {9, 99, 99}, {10, 0, 0}}
	for i, v := range rising {
		for j, w := range rising {
			if c := v.Compare(w); (c < 0) != (i < j) || (c > 0) != (i > j) {
				t.Errorf("%v.Compare(%v) = %d", v, w, c)
			}
		}
	}
}

func TestParseDemandRefuses(t *testing.T) {
	for _, word := range []string{"", "**", "*1.2.3", "1.2.3", "=", ">=", "~", "^", "=*", "= 1.2.3", " =1.2.3", "=1.2.3 ", "=1.2", "=1.2.3.4", "=01.2.3", "==1.2.3", "=>1.2.3", ">1.2.3", "<1.2.3", "<=1.2.3", "~>1.2.3", "~=1.2.3", "^^1.2.3", "^1000.0.0", "!1.2.3", "=v1.2.3", "=-1.2.3", "=\x001.2.3"} {
		if d, err := ParseDemand(word); d != (Demand{}) || err == nil {
			t.Errorf("ParseDemand(%q) = %v, %v", word, d, err)
		}
	}
}

// fits says what the document says of a sign and a version, one sentence each.
func fits(sign string, v, from Version) bool {
	first, second, third := v[0] == from[0], v[1] == from[1], v[2] == from[2]
	behind := v[0] > from[0] || first && (v[1] > from[1] || second && v[2] >= from[2])
	switch sign {
	case "=":
		return v == from
	case ">=":
		return behind
	case "~":
		return behind && first && second
	}
	if from[0] != 0 {
		return behind && first
	}
	if from[1] != 0 {
		return behind && first && second
	}
	return behind && first && second && third
}

func all(numbers []int) []Version {
	var list []Version
	for _, a := range numbers {
		for _, b := range numbers {
			for _, c := range numbers {
				list = append(list, Version{a, b, c})
			}
		}
	}
	return list
}

func TestFitsAsTheDocumentSays(t *testing.T) {
	text := map[int]string{0: "0", 1: "1", 2: "2", 10: "10"}
	list := all([]int{0, 1, 2, 10})
	for _, sign := range []string{"=", ">=", "~", "^"} {
		for _, from := range list {
			word := sign + text[from[0]] + "." + text[from[1]] + "." + text[from[2]]
			d, err := ParseDemand(word)
			if err != nil {
				t.Fatalf("ParseDemand(%q): %v", word, err)
			}
			for _, v := range list {
				if d.Fits(v) != fits(sign, v, from) {
					t.Errorf("%v fits %s: %v", v, word, d.Fits(v))
				}
			}
		}
	}
}

func TestEverythingFitsTheStar(t *testing.T) {
	d, err := ParseDemand("*")
	if err != nil {
		t.Fatal(err)
	}
	for _, v := range all([]int{0, 1, 999}) {
		if !d.Fits(v) {
			t.Errorf("%v does not fit *", v)
		}
	}
}
