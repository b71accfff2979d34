package tests

import (
	"math/rand"
	"strings"
	"testing"

	"loop.example/s01525/impl"
)

func TestNameConstants(t *testing.T) {
	for i, c := range []struct{ got, want int64 }{
		{impl.MaxName, 13}, {impl.MaxPath, 240}, {impl.MaxDepth, 16}, {impl.EntrySize, 16}, {impl.MaxEntries, 160}, {impl.ErrPath, 30}, {impl.ErrLong, 31},
	} {
		if c.got != c.want {
			t.Error("constant", i, "is", c.got)
		}
	}
}

func TestValidNameByHand(t *testing.T) {
	for name, want := range map[string]bool{
		"": false, "..": false, "...": true, "....": true, ".a": true, "a.": true, "..a": true, "a": true, "\"\\": true,
		"abcdefghijklm": true, "abcdefghijklmn": false, ".............": true, "..............": false,
		"\x20": false, "\x21": true, "\x2e": false, "\x2f": false, "\x7e": true, "\x7f": false, "\x80": false, "\xff": false, "\x00": false, "\n": false,
		"a/b": false, "/a": false, "a/": false, "a b": false, " a": false, "a ": false, "a\x7f": false, "a\x80": false, "\xffa": false,
		"\u00e9": false, "a\u00e9": false, "\u2028": false, "\ufffd": false, "\xe4\xb8": false, "\xc1\xa1": false, "\xf0\x9f\x98\x80": false, "\u0121": false, "\u0221a": false,
	} {
		if isName(name) != want {
			t.Errorf("the test's own rule answers otherwise of %q", name)
		}
		if got := impl.ValidName(name); got != want {
			t.Errorf("%q: valid is %v", name, got)
		}
	}
}

// Every byte at every place of names of every length, and every pair of bytes.
func TestValidNameBytes(t *testing.T) {
	for n := 1; n <= 16; n++ {
		for at := range n {
			for x := range 256 {
				b := sameBytes(n, 'q')
				b[at] = byte(x)
				if got := impl.ValidName(string(b)); got != isName(string(b)) {
					t.Errorf("%q: valid is %v", b, got)
				}
			}
		}
	}
	for x := range 256 {
		for y := range 256 {
			b := string([]byte{byte(x), byte(y)})
			if got := impl.ValidName(b); got != isName(b) {
				t.Errorf("%q: valid is %v", b, got)
			}
		}
	}
	for _, n := range []int{0, 1, 13, 14, 255, 256, 257, 269, 70000, 1<<16 + 13, 1 << 20} {
		for _, piece := range []string{"a", ".", "é"} {
			name := strings.Repeat(piece, n)
			if got := impl.ValidName(name); got != isName(name) {
				t.Errorf("%d times %q: valid is %v", n, piece, got)
			}
		}
	}
}

func TestSplitPathByHand(t *testing.T) {
	sixteen := strings.Repeat("/a", 16)
	longest := strings.Repeat("/abcdefghijklm", 16)
	for _, c := range []struct {
		path string
		code int64
		want string
	}{
		{"/", 0, ""}, {"/a", 0, "a"}, {"/a/b.c/...", 0, "a b.c ..."}, {"/~/!", 0, "~ !"}, {"/abcdefghijklm", 0, "abcdefghijklm"}, {"/a/a/a", 0, "a a a"},
		{"", 30, ""}, {"a", 30, ""}, {"a/b", 30, ""}, {" /a", 30, ""}, {"./a", 30, ""}, {"\xff/a", 30, ""}, {"é", 30, ""},
		{"/a/", 30, ""}, {"//", 30, ""}, {"//a", 30, ""}, {"/a//b", 30, ""}, {"/a//", 30, ""}, {"///", 30, ""},
		{"/.", 30, ""}, {"/..", 30, ""}, {"/a/../b", 30, ""}, {"/a/.", 30, ""}, {"/a b", 30, ""}, {"/\x80", 30, ""}, {"/a\x7f/b", 30, ""}, {"/é", 30, ""}, {"/\xe4/\xb8", 30, ""},
		{"/abcdefghijklmn", 31, ""}, {"/a/abcdefghijklmn/b", 31, ""}, {"/..............", 31, ""}, {"/abcdefghijklmn/", 31, ""}, {"/abcdefghijklmn//", 31, ""},
		{"/abcdefghijklmn/a b", 31, ""}, {"/a b/abcdefghijklmn", 30, ""}, {"/abcdefghijklmn/..", 31, ""}, {"/../abcdefghijklmn", 30, ""}, {"//abcdefghijklmn", 30, ""},
		{"/abcdefghijklm\x01", 30, ""}, {"/abcdefghijklm\x20", 30, ""}, {"/abcdefghijklm\x7f", 30, ""}, {"/abcdefghijklm\xff", 30, ""}, {"/\x7fabcdefghijklm", 30, ""}, {"/abcdefghijklmn é", 30, ""}, {"/ééééééééé", 30, ""},
		{sixteen, 0, "a a a a a a a a a a a a a a a a"}, {sixteen + "/a", 30, ""}, {sixteen + "/", 30, ""}, {sixteen + "/abcdefghijklmn", 31, ""}, {sixteen + "/a/abcdefghijklmn", 31, ""}, {sixteen + "/a b", 30, ""},
		{longest, 0, strings.TrimSuffix(strings.Repeat("abcdefghijklm ", 16), " ")}, {longest + "/abcdefghijklm", 30, ""}, {longest + "/abcdefghijklmno", 31, ""}, {longest + "/abcdefghijklmnop", 30, ""},
		{"/" + strings.Repeat("x", 239), 31, ""}, {"/" + strings.Repeat("x", 240), 30, ""}, {strings.Repeat("/", 240), 30, ""}, {strings.Repeat("/a", 120), 30, ""}, {strings.Repeat("/a", 121), 30, ""},
	} {
		r := impl.SplitPath(c.path)
		if r.Code != c.code || strings.Join(r.Names, " ") != c.want {
			t.Errorf("%q: %d %q, not %d %q", c.path, r.Code, r.Names, c.code, c.want)
		}
		checkPath(t, c.path)
	}
}

func checkPath(t *testing.T, path string) impl.PathResult {
	t.Helper()
	got, want := impl.SplitPath(path), plainSplit(path)
	if value(got) != value(want) {
		t.Errorf("%q: %v, not %v", path, got, want)
	}
	return got
}

// A path of each number of names, and of each number of bytes, with all that may stand at its end.
func TestSplitPathLengths(t *testing.T) {
	for n := range 20 {
		for _, name := range []string{"a", "ab", "abcdefghijkl", "abcdefghijklm"} {
			path := strings.Repeat("/"+name, n)
			for _, end := range []string{"", "/", "//", "/.", "/..", "/...", "a", "/ ", "/abcdefghijklmn", "/a/abcdefghijklmn", "\xff"} {
				checkPath(t, path+end)
			}
		}
	}
	for n := range 300 {
		checkPath(t, "/"+strings.Repeat("x", n))
		checkPath(t, "/"+strings.Repeat("\x80", n))
		checkPath(t, strings.Repeat("/", n))
		checkPath(t, strings.Repeat("/abcdefghijklm", 22)[:n])
		checkPath(t, strings.Repeat("/abcdefghijklmnopqr", 20)[:n])
		checkPath(t, strings.Repeat("x", n))
	}
	checkPath(t, "/"+strings.Repeat("a/", 1<<19))
}

// Every byte at every place of a path.
func TestSplitPathBytes(t *testing.T) {
	for _, path := range []string{"/abc/de", "/abcdefghijklm/a", "/abcdefghijklmno", "/a"} {
		for at := range path {
			for x := range 256 {
				b := []byte(path)
				b[at] = byte(x)
				checkPath(t, string(b))
			}
		}
	}
}

// Drawn paths, put together of parts that are names, too long, odd, or none.
func TestSplitPathDrawn(t *testing.T) {
	draw := rand.New(rand.NewSource(101))
	codes := map[int64]int{}
	odd := []string{"", ".", "..", "a b", "\xff", "é", "abcdefghijklmn", "abcdefghijklmnopq", "abcdefghijklm\x7f", "\x1fabcdefghijklmn", "..............", " "}
	for range 20000 {
		path := ""
		if draw.Intn(20) == 0 {
			path = "x"
		}
		for range draw.Intn([]int{4, 20}[draw.Intn(2)]) {
			part := drawnName(draw)
			if draw.Intn(12) == 0 {
				part = odd[draw.Intn(len(odd))]
			}
			path += "/" + part
		}
		codes[checkPath(t, path).Code]++
	}
	for _, code := range []int64{0, 30, 31} {
		if codes[code] < 1000 {
			t.Error("the code", code, "was seen", codes[code], "times")
		}
	}
}

// The names of a path, each with a stroke ahead, are the path.
func TestSplitPathAndBack(t *testing.T) {
	draw := rand.New(rand.NewSource(102))
	for range 3000 {
		var path strings.Builder
		for range 1 + draw.Intn(16) {
			path.WriteString("/" + drawnName(draw))
		}
		r := impl.SplitPath(path.String())
		if r.Code != 0 || "/"+strings.Join(r.Names, "/") != path.String() {
			t.Errorf("%q: %v", path.String(), r)
		}
	}
}
