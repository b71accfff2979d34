package tests

import (
	"fmt"
	"math"
	"math/rand"
	"runtime"
	"strings"
	"sync"
	"testing"
	"unsafe"

	"loop.example/s01525/impl"
)

func TestPureQuote(t *testing.T) {
	for _, text := range []string{"", "%", "plain", "a b", "%20", "%41", "\x00\xff\n", strings.Repeat("x", 65536), strings.Repeat("x", 65537), strings.Repeat("%00", 65536)} {
		checkPure(t, pureCase{fmt.Sprintf("Quote of %.20q", text), impl.Quote, func() []any { return []any{text} }})
		checkPure(t, pureCase{fmt.Sprintf("Unquote of %.20q", text), impl.Unquote, func() []any { return []any{text} }})
	}
}

func TestPureParseLine(t *testing.T) {
	lines := []string{"", " ", "x", "create /a b", "arm 0", "write /a 0 %41", "arm 1" + strings.Repeat(" 1", 600), "crash" + strings.Repeat(" 1", 601), "append /a " + strings.Repeat("x", 65526), "append /a " + strings.Repeat("x", 65527)}
	for _, row := range lineRows() {
		lines = append(lines, row.line)
	}
	for _, line := range lines {
		checkPure(t, pureCase{fmt.Sprintf("ParseLine of %.20q", line), impl.ParseLine, func() []any { return []any{[]byte(line)} }})
	}
	checkPure(t, pureCase{"ParseLine of nil", impl.ParseLine, func() []any { return []any{[]byte(nil)} }})
}

func TestPureFormatAnswer(t *testing.T) {
	for _, kind := range append(otherKinds(), runOf(1, 25)...) {
		for _, code := range []int64{0, 1, math.MinInt64} {
			checkPure(t, pureCase{fmt.Sprint("FormatAnswer of kind ", kind), impl.FormatAnswer, func() []any {
				a := fullAnswer()
				a.Code = code
				return []any{impl.Call{Kind: kind, Path: "/p", Data: "d"}, a}
			}})
		}
		checkPure(t, pureCase{"FormatAnswer of nothing", impl.FormatAnswer, func() []any { return []any{impl.Call{Kind: kind}, impl.Answer{}} }})
	}
}

// pureTexts are scripts of all sorts.
func pureTexts() map[string]string {
	var up []string
	for _, row := range everyLine() {
		up = append(up, row[0])
	}
	return map[string]string{
		"none": "", "an empty line": "\n", "every line": strings.Join(up, "\n"), "every line, down": "crash\n" + strings.Join(up, "\n"),
		"crashes": "mkdir /a\nsync\nmkdir /b\narm 9 1 1 1 1 1 1\nsync\ntree\nmount\nlist /\ncrash 1\narm 3 0 1\nmount\nmount\ncheck\nlog\ntree",
		"long":    strings.Repeat("x", 65536), "too long": strings.Repeat("x", 65537), "many lines": strings.Repeat("space\n", 400), "too many lines": strings.Repeat("space\n", 401),
		"a full reply": strings.Join(append(upTo(2), "tree", "sync", "create /x", "sync"), "\n"),
	}
}

func TestPureServe(t *testing.T) {
	t.Parallel()
	for _, g := range []impl.Geometry{{}, serveGeometry(), wideGeometry(), {Blocks: 22, Log: 16, Inodes: 1}, {Blocks: math.MinInt64, Log: math.MaxInt64, Inodes: -1}} {
		for name, text := range pureTexts() {
			checkPure(t, pureCase{fmt.Sprint("Serve, ", name, ", of ", g), impl.Serve, func() []any { return []any{[]byte(text), g} }})
		}
	}
	checkPure(t, pureCase{"Serve of nil", impl.Serve, func() []any { return []any{[]byte(nil), serveGeometry()} }})
}

// The texts of an answer are its own: writing over the bytes of which the arguments' texts are made changes none of them.
func TestPureScriptTextsApart(t *testing.T) {
	for _, text := range []string{"plain", "a", "a%20b", "%", "names"} {
		for name, answer := range map[string]func(text string) string{
			"Quote":               impl.Quote,
			"Unquote":             func(text string) string { return impl.Unquote(text).Data },
			"FormatAnswer, data":  func(text string) string { return impl.FormatAnswer(reading("", 0, 0), impl.Answer{Data: text}) },
			"FormatAnswer, names": func(text string) string { return impl.FormatAnswer(listOf(""), impl.Answer{Names: []string{text}}) },
		} {
			b := []byte(text)
			got := answer(unsafe.String(unsafe.SliceData(b), len(b)))
			for i := range b {
				b[i] = '?'
			}
			if want := answer(text); got != want {
				t.Errorf("%s of %q is %q when the text is written over", name, text, got)
			}
		}
	}
}

// scriptCalls makes all functions answer, wrong arguments among them, and tells all of it.
func scriptCalls(seed int64) string {
	draw := rand.New(rand.NewSource(seed))
	var told []any
	for range 4 {
		g := impl.Geometry{Log: 20 + draw.Int63n(30), Inodes: 3 + draw.Int63n(9)}
		g.Blocks = g.Log + 20 + draw.Int63n(50)
		w := scriptDraw{draw: draw, most: 100, names: 3, system: bareSystem(g)}
		var lines []string
		up := newPlainMachine(g)
		for range 60 {
			line := w.drawnLine(up)
			if l := plainLine([]byte(line)); l.Kind == impl.LineCall {
				w.system.call(l.Call)
				told = append(told, l, impl.FormatAnswer(l.Call, impl.Answer{Data: line}))
			}
			lines = append(lines, line)
			told = append(told, impl.ParseLine([]byte(line)), impl.Quote(line), impl.Unquote(line))
		}
		told = append(told, impl.Serve(scriptOf(lines), g), impl.Serve(scriptOf(lines), impl.Geometry{Blocks: g.Blocks}))
	}
	return value(told)
}

// What a call answers does not hang on what was called before it, nor beside it, nor on how many goroutines run at once.
func TestPureScripts(t *testing.T) {
	first := scriptCalls(3)
	for seed := range int64(6) {
		scriptCalls(seed)
		if scriptCalls(3) != first {
			t.Fatal("behind other calls the same calls answer otherwise, seed", seed)
		}
	}
	was := runtime.GOMAXPROCS(0)
	for _, n := range []int{1, 2, 16} {
		runtime.GOMAXPROCS(n)
		if scriptCalls(3) != first {
			t.Error("the calls answer otherwise where", n, "goroutines run at once")
		}
	}
	runtime.GOMAXPROCS(was)
	var got [8]string
	var all sync.WaitGroup
	for i := range got {
		all.Add(1)
		go func() {
			defer all.Done()
			got[i] = scriptCalls(3)
		}()
	}
	all.Wait()
	for i, g := range got {
		if g != first {
			t.Error("calls at once answer otherwise:", i)
		}
	}
}

// Whoever parses lines has ended when a script is answered, a reply that is full too.
func TestNoParserRunsOn(t *testing.T) {
	before := runtime.NumGoroutine()
	for _, text := range pureTexts() {
		for _, g := range []impl.Geometry{{}, serveGeometry(), wideGeometry()} {
			impl.Serve([]byte(text), g)
		}
	}
	// One that has done its work may be about to leave.
	for range 1000 {
		if runtime.NumGoroutine() <= before {
			return
		}
		runtime.Gosched()
	}
	t.Error(runtime.NumGoroutine()-before, "goroutines more than before")
}

// Whatever bytes a script has: there is an answer, and it is what the document says.
func TestServeAnyBytes(t *testing.T) {
	t.Parallel()
	draw := rand.New(rand.NewSource(1410))
	words := []string{"create", "mkdir", "write", "sync", "crash", "mount", "arm", "tree", "check", "log", " ", " ", " ", "\n", "\n", "\n", "/a", "/b", "0", "1", "5", "-1", "%", "%00", "x", "\x00", "\xff", "list /\n", "create /a\n", "sync\n", "mount\n", "crash\n", "arm 3 1\n", "space\n", "unlink /a\n"}
	answers := map[string]int{}
	for range 300 {
		var text []byte
		for range draw.Intn(120) {
			text = append(text, words[draw.Intn(len(words))]...)
		}
		got := string(impl.Serve(text, serveGeometry()))
		if want := plainServe(text, serveGeometry()); got != want {
			sameReplies(t, "any bytes", []string{string(text)}, got, want)
		}
		for _, answer := range plainTextLines([]byte(got)) {
			answers[strings.Fields(answer)[0]]++
		}
	}
	for _, word := range []string{"ok", "error", "bad", "crashed", "mounted", "down", "armed", "names", "space", "up"} {
		if answers[word] < 20 {
			t.Errorf("%d answers are %s", answers[word], word)
		}
	}
}
