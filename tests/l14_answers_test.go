package tests

import (
	"math"
	"math/rand"
	"slices"
	"strings"
	"testing"

	"loop.example/s01525/impl"
)

func checkFormat(t *testing.T, c impl.Call, a impl.Answer) string {
	t.Helper()
	got := impl.FormatAnswer(c, a)
	if want := plainFormat(c, a); got != want {
		t.Fatalf("the answer %.300s to a call of the kind %d is told as %.200q, not %.200q", value(a), c.Kind, got, want)
	}
	return got
}

// fullAnswer has something in each field.
func fullAnswer() impl.Answer {
	return impl.Answer{Data: "a b", Names: []string{"x", "y"}, Handle: 3, Stat: impl.Stat{Kind: 4, Links: 5, Size: 6, Blocks: 7}, State: impl.TxnState{Seq: 8, Head: 9, Used: 10, Running: 11, Committed: 12}}
}

// otherKinds are those of no call.
func otherKinds() []int64 {
	return []int64{0, -1, 26, 27, 100, 256 + 17, math.MaxInt64, math.MinInt64, math.MinInt64 + 17, 1<<32 + 20}
}

// Each kind of call tells its own part of the answer, and no other.
func TestFormatByKind(t *testing.T) {
	want := map[int64]string{15: "data a%20b", 17: "data a%20b", 21: "data a%20b", 14: "handle 3", 16: "stat 4 5 6 7", 18: "stat 4 5 6 7", 19: "stat 4 5 6 7", 20: "names x y", 24: "space 6 7", 25: "log 8 9 10 11 12"}
	zero := map[int64]string{15: "data %", 17: "data %", 21: "data %", 14: "handle 0", 16: "stat 0 0 0 0", 18: "stat 0 0 0 0", 19: "stat 0 0 0 0", 20: "names", 24: "space 0 0", 25: "log 0 0 0 0 0"}
	for _, kind := range append(otherKinds(), runOf(1, 25)...) {
		c := impl.Call{Kind: kind, Path: "/p", To: "/q", Handle: 90, Offset: 91, Size: 92, Data: "d"}
		full, empty := "ok", "ok"
		if text, ok := want[kind]; ok {
			full, empty = text, zero[kind]
		}
		if got := checkFormat(t, c, fullAnswer()); got != full {
			t.Errorf("kind %d: %q", kind, got)
		}
		if got := checkFormat(t, impl.Call{Kind: kind}, impl.Answer{}); got != empty {
			t.Errorf("kind %d, of nothing: %q", kind, got)
		}
	}
}

// With a code nothing else is told, whatever the call.
func TestFormatCodes(t *testing.T) {
	for code, want := range map[int64]string{1: "error 1", 32: "error 32", 49: "error 49", -1: "error -1", -32: "error -32", 1000000000000: "error 1000000000000", math.MaxInt64: "error 9223372036854775807", math.MinInt64: "error -9223372036854775808"} {
		for _, kind := range append(otherKinds(), runOf(1, 25)...) {
			a := fullAnswer()
			a.Code = code
			if got := checkFormat(t, impl.Call{Kind: kind}, a); got != want {
				t.Errorf("code %d of kind %d: %q", code, kind, got)
			}
			if got := checkFormat(t, impl.Call{Kind: kind}, impl.Answer{Code: code}); got != want {
				t.Errorf("code %d alone of kind %d: %q", code, kind, got)
			}
		}
	}
}

func TestFormatNumbers(t *testing.T) {
	least, largest := "-9223372036854775808", "9223372036854775807"
	for _, row := range []struct {
		kind int64
		a    impl.Answer
		want string
	}{
		{14, impl.Answer{Handle: -1}, "handle -1"}, {14, impl.Answer{Handle: math.MinInt64}, "handle " + least}, {14, impl.Answer{Handle: math.MaxInt64}, "handle " + largest},
		{18, impl.Answer{Stat: impl.Stat{Kind: -1, Links: -2, Size: -3, Blocks: -4}}, "stat -1 -2 -3 -4"},
		{19, impl.Answer{Stat: impl.Stat{Kind: math.MinInt64, Links: math.MaxInt64, Size: math.MinInt64, Blocks: math.MaxInt64}}, "stat " + least + " " + largest + " " + least + " " + largest},
		{16, impl.Answer{Stat: impl.Stat{Kind: 10, Links: 0, Size: -10, Blocks: 100}}, "stat 10 0 -10 100"},
		{24, impl.Answer{Stat: impl.Stat{Kind: 1, Links: 2, Size: -5, Blocks: math.MinInt64}}, "space -5 " + least},
		{24, impl.Answer{Stat: impl.Stat{Size: math.MaxInt64, Blocks: 0}}, "space " + largest + " 0"},
		{25, impl.Answer{State: impl.TxnState{Seq: -1, Head: math.MinInt64, Used: math.MaxInt64, Running: 0, Committed: -100}}, "log -1 " + least + " " + largest + " 0 -100"},
	} {
		if got := checkFormat(t, impl.Call{Kind: row.kind}, row.a); got != row.want {
			t.Errorf("kind %d: %q, not %q", row.kind, got, row.want)
		}
	}
}

// Names are told as they are, even those that are none.
func TestFormatNames(t *testing.T) {
	for _, row := range []struct {
		names []string
		want  string
	}{
		{nil, "names"}, {[]string{}, "names"}, {[]string{"a"}, "names a"}, {[]string{"b", "a", "b"}, "names b a b"}, {[]string{""}, "names "}, {[]string{"", ""}, "names  "}, {[]string{"a b", "%", "\x00\xff\n"}, "names a b % \x00\xff\n"}, {[]string{"%20", "/"}, "names %20 /"},
	} {
		if got := checkFormat(t, impl.Call{Kind: impl.CallList}, impl.Answer{Names: row.names}); got != row.want {
			t.Errorf("%q: %q", row.names, got)
		}
	}
	many := slices.Repeat([]string{"abcdefghijklm"}, 5000)
	if got := checkFormat(t, impl.Call{Kind: impl.CallList}, impl.Answer{Names: many}); len(got) != 5+14*5000 {
		t.Error("5000 names are told in", len(got), "bytes")
	}
}

// Data are quoted; there is no more of too many of them than of none at all.
func TestFormatData(t *testing.T) {
	for _, kind := range []int64{impl.CallRead, impl.CallPread, impl.CallReadlink} {
		for data, want := range map[string]string{
			"": "data %", "x": "data x", " ": "data %20", "%": "data %25", "\n": "data %0a", "a b%c\x00\xff": "data a%20b%25c%00%ff", "/a/b": "data /a/b",
			strings.Repeat("a", 65536): "data " + strings.Repeat("a", 65536), strings.Repeat("\x00", 65536): "data " + strings.Repeat("%00", 65536), strings.Repeat("a", 65537): "data ", strings.Repeat("\x00", 65537): "data ", strings.Repeat("a", 1<<20): "data ",
		} {
			if got := checkFormat(t, impl.Call{Kind: kind}, impl.Answer{Data: data}); got != want {
				t.Errorf("kind %d, %d bytes: %.60q", kind, len(data), got)
			}
		}
	}
	if got := checkFormat(t, impl.Call{Kind: impl.CallWrite}, impl.Answer{Data: strings.Repeat("a", 65537)}); got != "ok" {
		t.Errorf("a write: %.60q", got)
	}
}

func TestFormatDrawn(t *testing.T) {
	draw := rand.New(rand.NewSource(1403))
	number := func() int64 {
		return []int64{draw.Int63n(1000), -draw.Int63n(1000), int64(draw.Uint64()), 0, math.MinInt64}[draw.Intn(5)]
	}
	for range 20000 {
		a := impl.Answer{Handle: number(), Stat: impl.Stat{Kind: number(), Links: number(), Size: number(), Blocks: number()}, State: impl.TxnState{Seq: number(), Head: number(), Used: number(), Running: number(), Committed: number()}}
		if draw.Intn(4) == 0 {
			a.Code = number()
		}
		data := make([]byte, draw.Intn(20))
		draw.Read(data)
		a.Data = string(data)
		for range draw.Intn(4) {
			a.Names = append(a.Names, drawnName(draw))
		}
		checkFormat(t, impl.Call{Kind: draw.Int63n(28) - 1}, a)
	}
}
