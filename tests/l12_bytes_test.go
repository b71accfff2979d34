package tests

import (
	"fmt"
	"math"
	"slices"
	"strings"
	"testing"

	"loop.example/s01525/impl"
)

// sketch is a file as a list of bytes, and which of its indexes have blocks.
type sketch struct {
	data []byte
	has  [40]bool
}

func (s *sketch) write(offset int64, data string) {
	if data == "" {
		return
	}
	if grow := int(offset) + len(data) - len(s.data); grow > 0 {
		s.data = append(s.data, make([]byte, grow)...)
	}
	copy(s.data[offset:], data)
	for i := range data {
		s.has[(int(offset)+i)/64] = true
	}
}

func (s *sketch) truncate(size int64) {
	s.data = append(s.data, make([]byte, 2560)...)[:size]
	for index := range s.has {
		s.has[index] = s.has[index] && int64(index)*64 < size
	}
}

func (s *sketch) stat() impl.Stat {
	stat := impl.Stat{Kind: 1, Links: 1, Size: int64(len(s.data))}
	for _, has := range s.has {
		if has {
			stat.Blocks++
		}
	}
	if slices.Contains(s.has[8:], true) {
		stat.Blocks++
	}
	return stat
}

// do carries out a call on the file, if it has no code.
func (s *sketch) do(c impl.Call) {
	switch c.Kind {
	case impl.CallWrite, impl.CallPwrite:
		s.write(c.Offset, c.Data)
	case impl.CallAppend:
		s.write(int64(len(s.data)), c.Data)
	case impl.CallTruncate, impl.CallFtruncate:
		s.truncate(c.Size)
	}
}

// byHandle is the call through handle 1.
func byHandle(c impl.Call) impl.Call {
	kinds := map[int64]int64{impl.CallWrite: impl.CallPwrite, impl.CallTruncate: impl.CallFtruncate, impl.CallRead: impl.CallPread, impl.CallStat: impl.CallFstat}
	if kind, ok := kinds[c.Kind]; ok {
		c.Kind, c.Handle, c.Path = kind, 1, ""
	}
	return c
}

// fileBases are what a file may be ahead of a change.
func fileBases() map[string][]impl.Call {
	return map[string][]impl.Call{
		"empty":          nil,
		"a byte":         {writing("/f", 0, "x")},
		"a block":        {writing("/f", 0, letters(64, 1))},
		"all direct":     {writing("/f", 0, letters(512, 2))},
		"a pointer":      {writing("/f", 0, letters(600, 3))},
		"full":           {writing("/f", 0, letters(2560, 4))},
		"the last byte":  {writing("/f", 2559, "z")},
		"nothing but":    {truncating("/f", 2560)},
		"holes":          {writing("/f", 100, letters(30, 5)), writing("/f", 500, letters(30, 6)), writing("/f", 1000, letters(200, 7)), truncating("/f", 1300)},
		"cut and longer": {writing("/f", 0, letters(700, 8)), truncating("/f", 530), truncating("/f", 2000)},
	}
}

func lengthEdges() []int64 {
	return []int64{0, 1, 63, 64, 65, 127, 511, 512, 513, 575, 576, 2495, 2496, 2559, 2560, 2561, -1, math.MaxInt64, math.MinInt64, math.MaxInt64 - 1}
}

// changesOfBytes are the changes of a file at all the edges.
func changesOfBytes() []impl.Call {
	var calls []impl.Call
	for _, at := range lengthEdges() {
		calls = append(calls, truncating("/f", at))
		for _, n := range []int{0, 1, 2, 64, 65, 513, 2560, 2561} {
			calls = append(calls, writing("/f", at, letters(n, byte(n))))
		}
	}
	for _, n := range []int{0, 1, 63, 64, 65, 512, 1960, 2559, 2560, 2561} {
		calls = append(calls, appending("/f", letters(n, 9)))
	}
	return calls
}

func codeOfBytes(c impl.Call, size int64) int64 {
	switch c.Kind {
	case impl.CallTruncate:
		return rangeCode(c.Size, 0)
	case impl.CallAppend:
		return rangeCode(size, len(c.Data))
	}
	return rangeCode(c.Offset, len(c.Data))
}

// byteCase is a change of a file: what is to be answered by the last seven of its calls.
type byteCase struct {
	name  string
	calls []impl.Call
	want  []impl.Answer
}

// byteCases are all changes of all files, by the path and by a handle: what is read then, how large the file is, which blocks it has; and
// again when it was cut to half of that and made as long as it may be.
func byteCases(use func(c byteCase)) {
	for name, base := range fileBases() {
		for _, c := range changesOfBytes() {
			var s sketch
			for _, b := range base {
				s.do(b)
			}
			code := codeOfBytes(c, int64(len(s.data)))
			if code == 0 {
				s.do(c)
			}
			half, longest := truncating("/f", int64(len(s.data)/2)), truncating("/f", 2560)
			asks := []impl.Call{c, reading("/f", 0, 2560), statOf("/f"), half, longest, reading("/f", 0, 9999), statOf("/f")}
			want := []impl.Answer{{Code: code}, {Data: string(s.data)}, {Stat: s.stat()}, {}, {}}
			s.do(half)
			s.do(longest)
			want = append(want, impl.Answer{Data: string(s.data)}, impl.Answer{Stat: s.stat()})
			calls := append(slices.Clone(base), opening("/f"))
			use(byteCase{name, append(slices.Clip(calls), asks...), want})
			for i := range asks {
				asks[i] = byHandle(asks[i])
			}
			use(byteCase{name + ", by handle", append(slices.Clip(calls), asks...), want})
		}
	}
}

// check holds the answers to the calls, those that there are, against what they are to be.
func (c byteCase) check(t *testing.T, answers []impl.Answer) {
	t.Helper()
	at := len(answers) - len(c.want)
	for i := range c.want {
		if value(answers[at+i]) != value(c.want[i]) {
			call := c.calls[len(c.calls)-len(c.want)]
			t.Errorf("%s, %d %d %d %d: answer %d is %+v, not %+v", c.name, call.Kind, call.Offset, call.Size, len(call.Data), i, answers[at+i], c.want[i])
		}
	}
}

// Each change of a file's bytes.
func TestBytesOfFiles(t *testing.T) {
	t.Parallel()
	d := grown(t, newDisk(300, 200, 4), creating("/f"))
	n := 0
	byteCases(func(c byteCase) {
		c.check(t, impl.Run(d, c.calls, -1).Answers)
		if n++; n%41 == 0 {
			checkSystem(t, c.name, d, append(slices.Clip(c.calls), checkpointing()))
		}
	})
	if n < 3000 {
		t.Error(n)
	}
}

// readPieces are reads at all the edges of a file that the calls make, and what they are to answer.
func readPieces() (base, reads []impl.Call, want []impl.Answer) {
	data := letters(64, 1) + strings.Repeat("\x00", 128) + letters(500, 2) + strings.Repeat("\x00", 100)
	base = []impl.Call{writing("/f", 0, letters(64, 1)), writing("/f", 192, letters(500, 2)), truncating("/f", 792), opening("/f")}
	for _, at := range append(lengthEdges(), 191, 192, 193, 691, 692, 791, 792, 793) {
		for _, n := range append(lengthEdges(), 300, 792, 793) {
			var a impl.Answer
			switch {
			case at < 0 || n < 0:
				a.Code = impl.ErrRange
			case at < 792:
				a.Data = data[at:min(792, at+min(n, 792))]
			}
			reads, want = append(reads, reading("/f", at, n)), append(want, a)
		}
	}
	return base, reads, want
}

// Every piece of a file that is read.
func TestReadPieces(t *testing.T) {
	d := grown(t, newDisk(100, 80, 4), creating("/f"))
	base, reads, want := readPieces()
	for i, c := range reads {
		for _, a := range impl.Run(d, append(slices.Clip(base), c, byHandle(c)), -1).Answers[len(base):] {
			if value(a) != value(want[i]) {
				t.Errorf("%d bytes from %d on: code %d, %d bytes, not %d, %d", c.Size, c.Offset, a.Code, len(a.Data), want[i].Code, len(want[i].Data))
			}
		}
	}
}

// What was there once is never read again: blocks that are taken anew are 0 but for what is written.
func TestNewBlocksAreZero(t *testing.T) {
	d := newDisk(60, 40, 8)
	calls := []impl.Call{creating("/f"), creating("/g"), writing("/f", 0, letters(320, 1)), checkpointing(), truncating("/f", 0), writing("/g", 70, "g"), writing("/g", 200, "h"), writing("/f", 63, "f"), truncating("/g", 250), reading("/g", 0, 999), reading("/f", 0, 999), mkdir("/d"), creating("/d/x"), checkpointing()}
	s := checkSystemStopped(t, "taken anew", d, calls)
	if s.told[9].Data != strings.Repeat("\x00", 70)+"g"+strings.Repeat("\x00", 129)+"h"+strings.Repeat("\x00", 49) || s.told[10].Data != strings.Repeat("\x00", 63)+"f" {
		t.Errorf("%q %q", s.told[9].Data, s.told[10].Data)
	}
	for n := range int64(64) {
		calls := []impl.Call{creating("/f"), writing("/f", 0, letters(64, 3)), truncating("/f", n), truncating("/f", 64), reading("/f", 0, 64), truncating("/f", n), appending("/f", "x"), reading("/f", 0, 99), writing("/f", 100, "y"), reading("/f", 0, 100)}
		s := checkSystem(t, fmt.Sprint("cut at ", n), d, calls)
		left := letters(64, 3)[:n]
		if s.told[4].Data != left+strings.Repeat("\x00", int(64-n)) || s.told[7].Data != left+"x" || s.told[9].Data != left+"x"+strings.Repeat("\x00", int(99-n)) {
			t.Errorf("cut at %d: %q %q %q", n, s.told[4].Data, s.told[7].Data, s.told[9].Data)
		}
	}
}
