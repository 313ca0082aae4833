package formula_test

import (
	"strings"
	"testing"

	"lassowork/api"
	"lassowork/formula"
)

// C2, C4: what is printed is parsed to what prints so.
func TestPrintedIsParsed(t *testing.T) {
	d := draw(2)
	right := 0
	for range 20000 {
		f := d.formula(12)
		text, e := formula.Print(f)
		if want := write(f, len(f)-1); text != want || e != api.OK {
			t.Fatalf("Print %v: %q %d, want %q", f, text, e, want)
		}
		g, at, e := formula.Parse(text)
		if at != 0 || e != api.OK && e != api.ErrMany { // parts that stand in several others stand there by themselves now
			t.Fatalf("Parse %q: %v %d %d", text, g, at, e)
		}
		if e == api.ErrMany {
			continue
		}
		right++
		if again, e := formula.Print(g); again != text || e != api.OK {
			t.Fatalf("%q is parsed to what prints %q %d", text, again, e)
		}
	}
	if right < 5000 {
		t.Errorf("%d are parsed: that tells little", right)
	}
}

// stuck: where the first byte stands that can't, or the text ends too early; -1, if it is whole. By a list of what must come, byte by byte: f a formula, o a sign between two, d a digit, e more digits, each other byte itself.
func stuck(text string) int {
	must := "f"
	for at := 0; ; at++ {
		if must == "" && at == len(text) || must == "e" && at == len(text) {
			return -1
		}
		if at == len(text) {
			return at
		}
		b := text[at : at+1]
		if strings.HasPrefix(must, "e") && !strings.Contains("0123456789", b) {
			must = must[1:]
		}
		if must == "" {
			return at
		}
		first, rest := must[:1], must[1:]
		switch {
		case first == "f" && b == "t":
			must = "\x01\x02\x03" + rest
		case first == "f" && b == "p":
			must = "d" + rest
		case first == "f" && (b == "!" || b == "X"):
			must = "f" + rest
		case first == "f" && b == "(":
			must = "f o f)" + rest
		case first == "o" && strings.Contains("&|UR", b), first == "d" && b == "0":
			must = rest
		case first == "d" && strings.Contains("123456789", b):
			must = "e" + rest
		case first == "e":
		case first == "\x01" && b == "r", first == "\x02" && b == "u", first == "\x03" && b == "e":
			must = rest
		case (first == " " || first == ")") && first == b:
			must = rest
		default:
			return at
		}
	}
}

// C2: of many texts, the place of the first byte that can't stand there.
func TestParseDrawn(t *testing.T) {
	d := draw(3)
	alphabet := []byte("true p0123&|!XUR()\x00\xffo\n")
	whole, not := 0, 0
	for range 60000 {
		f := d.formula(8)
		text, _ := formula.Print(f)
		if len(text) > 60 {
			continue
		}
		bytes := []byte(text)
		for range d.n(3) {
			at := d.n(len(bytes) + 1)
			b := alphabet[d.n(len(alphabet))]
			switch {
			case d.n(3) == 0:
				bytes = append(bytes[:at:at], append([]byte{b}, bytes[at:]...)...)
			case at == len(bytes):
			case d.n(2) == 0:
				bytes[at] = b
			case len(bytes) > 1:
				bytes = append(bytes[:at:at], bytes[at+1:]...)
			}
		}
		parsedAs(t, string(bytes))
		if stuck(string(bytes)) < 0 {
			whole++
		} else {
			not++
		}
	}
	if whole < 5000 || not < 5000 {
		t.Errorf("%d are whole, %d are not: that tells little", whole, not)
	}
}

// C2: all texts of few bytes.
func TestParseShort(t *testing.T) {
	texts := []string{""}
	for from := 0; len(texts[from]) < 5; from++ {
		for _, b := range "tp01!X( &U)" {
			texts = append(texts, texts[from]+string(b))
		}
	}
	for _, text := range texts {
		parsedAs(t, text)
	}
}

// parsedAs: Parse and Print and stuck tell the same of a text.
func parsedAs(t *testing.T, text string) {
	t.Helper()
	f, at, e := formula.Parse(text)
	wrong := stuck(text)
	if wrong >= 0 {
		if len(f) != 0 || at != wrong || e != api.ErrForm {
			t.Fatalf("Parse %q: %v %d %d, want %d", text, f, at, e, wrong)
		}
		return
	}
	if at != 0 || e == api.ErrForm || e != api.OK && len(f) != 0 {
		t.Fatalf("Parse %q: %v %d %d, but it is whole", text, f, at, e)
	}
	if e != api.OK {
		return
	}
	if again, e := formula.Print(f); again != text || e != api.OK {
		t.Fatalf("%q is parsed to what prints %q %d", text, again, e)
	}
}
