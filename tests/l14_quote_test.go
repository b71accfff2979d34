package tests

import (
	"bytes"
	"math/rand"
	"strings"
	"testing"

	"loop.example/s01525/impl"
)

// checkQuote is promise 19 of some data, and holds both functions against the document.
func checkQuote(t *testing.T, data string) string {
	t.Helper()
	text := impl.Quote(data)
	if text != plainQuote(data) {
		t.Fatalf("Quote of %d bytes, %.60q, is %.60q", len(data), data, text)
	}
	if got := impl.Unquote(text); got != (impl.Unquoted{Good: true, Data: data}) {
		t.Fatalf("Unquote of %.60q, which is Quote of %.60q, is %v, %.60q", text, data, got.Good, got.Data)
	}
	return text
}

// checkUnquote holds Unquote of any text against the document.
func checkUnquote(t *testing.T, text string) bool {
	t.Helper()
	got := impl.Unquote(text)
	if got != plainUnquote(text) {
		t.Fatalf("Unquote of %.60q (%d bytes) is %v, %.60q", text, len(text), got.Good, got.Data)
	}
	if got.Good && impl.Quote(got.Data) != text {
		t.Fatalf("%.60q is good, and not Quote of its data", text)
	}
	return got.Good
}

// As it is, or quoted, by hand: the bytes at the bounds.
func TestQuoteByHand(t *testing.T) {
	for data, want := range map[string]string{
		"": "%", "\x00": "%00", "\x01": "%01", "\t": "%09", "\n": "%0a", "\x1f": "%1f", " ": "%20", "!": "!", "\"": "\"", "$": "$", "%": "%25", "&": "&", "/": "/", "0": "0", "A": "A", "a": "a",
		"z": "z", "}": "}", "~": "~", "\x7f": "%7f", "\x80": "%80", "\xab": "%ab", "\xff": "%ff", "%%": "%25%25", "%41": "%2541", "a b": "a%20b", "\xc3\xa9": "%c3%a9", "ABC": "ABC", "%25": "%2525", " ~ ": "%20~%20",
	} {
		if got := checkQuote(t, data); got != want {
			t.Errorf("Quote of %q is %q", data, got)
		}
	}
}

// Each single byte, and each two of them: 94 bytes less the percent sign are written as they are.
func TestQuoteBytes(t *testing.T) {
	plain := 0
	for b := range 256 {
		text := checkQuote(t, string([]byte{byte(b)}))
		if len(text) == 1 {
			plain++
		}
		if quoted := b < 33 || b > 126 || b == '%'; quoted != (len(text) == 3) || text == "%" {
			t.Errorf("byte %d is %q", b, text)
		}
		for c := range 256 {
			checkQuote(t, string([]byte{byte(b), byte(c)}))
		}
	}
	if plain != 93 {
		t.Error(plain, "bytes are written as they are")
	}
}

func TestQuoteLengths(t *testing.T) {
	for b, each := range map[string]string{"a": "a", "~": "~", " ": "%20", "\x00": "%00", "%": "%25", "\xff": "%ff"} {
		for _, n := range []int{65535, 65536} {
			if text := checkQuote(t, strings.Repeat(b, n)); text != strings.Repeat(each, n) {
				t.Errorf("%d times %q is quoted in %d bytes", n, b, len(text))
			}
		}
		for _, n := range []int{65537, 65538, 196608, 300000} {
			if text := impl.Quote(strings.Repeat(b, n)); text != "" {
				t.Errorf("Quote of %d bytes has %d", n, len(text))
			}
			if got := impl.Unquote(strings.Repeat(each, n)); got != (impl.Unquoted{}) {
				t.Errorf("%d times %q is good, with %d bytes", n, each, len(got.Data))
			}
		}
	}
	// As many bytes as may be, of both sorts, and one more of each.
	mixed := strings.Repeat("%00a", 32768)
	if !checkUnquote(t, mixed) || checkUnquote(t, mixed+"a") || checkUnquote(t, mixed+"%00") || checkUnquote(t, mixed+"%") {
		t.Error("texts of both sorts of bytes")
	}
}

func TestUnquoteNone(t *testing.T) {
	for _, text := range []string{
		"", "%41", "%4", "%4G", "%4A", "%7F", "%FF", "%fF", "%Ff", "%%", "a%", "%a", "%0", "%2", "%g0", "%0g", "%zz", "%-1", "%+1", "% 1", "%1 ", "%0x", "%_1", "%1_", "%21", "%7e", "%30", "%61", "%7a", "%2f",
		" ", "a b", " a", "a ", "\ta", "\x00", "\x1f", "\x7f", "\x80", "a\xff", "\n", "a\nb", "é", "%25%", "%%25", "%25%4", "x%41", "%41x", "%00%41%00", "%2", "%252", "%25 ", "%\x00\x00", "%\xff\xff", "%%%", "%%00", "%00%%",
	} {
		want := text == "%252"
		if got := checkUnquote(t, text); got != want {
			t.Errorf("%q is good: %v", text, got)
		}
		if got := impl.Unquote(text); !want && got.Data != "" {
			t.Errorf("%q is not good, and has data", text)
		}
	}
}

// Every text of a percent sign and two bytes behind it: good are those that stand for a byte that is not written as it is, and what
// is three bytes as they are.
func TestUnquoteEveryQuoted(t *testing.T) {
	good := 0
	for a := range 256 {
		for b := range 256 {
			if checkUnquote(t, string([]byte{'%', byte(a), byte(b)})) {
				good++
			}
			checkUnquote(t, string([]byte{byte(a), byte(b)}))
		}
		checkUnquote(t, string([]byte{byte(a)}))
	}
	if good != 256-93 {
		t.Error(good, "of them are good")
	}
}

// Drawn data of all sorts of bytes, and texts drawn from what quoted ones are made of.
func TestQuoteDrawn(t *testing.T) {
	draw := rand.New(rand.NewSource(1401))
	for range 3000 {
		data := make([]byte, draw.Intn(80))
		for i := range data {
			data[i] = []byte{byte(draw.Intn(256)), byte(33 + draw.Intn(94)), '%', byte(draw.Intn(33))}[draw.Intn(4)]
		}
		text := []byte(checkQuote(t, string(data)))
		for range 5 {
			other := bytes.Clone(text)
			at := draw.Intn(len(other))
			switch b := "%0124567abefABF g~!"[draw.Intn(19)]; draw.Intn(3) {
			case 0:
				other[at] = b
			case 1:
				other = append(other[:at], other[at+1:]...)
			default:
				other = append(other[:at], append([]byte{b}, other[at:]...)...)
			}
			checkUnquote(t, string(other))
		}
	}
	good := 0
	for range 30000 {
		text := ""
		for range draw.Intn(6) {
			text += []string{"%", "%2", "%20", "%41", "%25", "a", "0", "%ff", "%FF", "5", "%0a", "f"}[draw.Intn(12)]
		}
		if checkUnquote(t, text) {
			good++
		}
	}
	if good < 3000 || good > 27000 {
		t.Error(good, "drawn texts are good")
	}
}
