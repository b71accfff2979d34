package tests

import (
	"bytes"
	"fmt"
	"regexp"
	"slices"
	"strconv"
	"strings"
	"testing"

	"loop.example/s01525/impl"
)

// Chapter 14 once more: quoted data and lines by patterns, the server by Run of all calls since the last mount.

func plainQuote(data string) string {
	if len(data) > 65536 {
		return ""
	}
	if len(data) == 0 {
		return "%"
	}
	var out strings.Builder
	for _, b := range []byte(data) {
		if b < 33 || b > 126 || b == 37 {
			fmt.Fprintf(&out, "%%%02x", b)
		} else {
			out.WriteByte(b)
		}
	}
	return out.String()
}

var (
	quotedText = regexp.MustCompile(`\A(?:[!-$&-~]|%[0-9a-f][0-9a-f])+\z`)
	quotedByte = regexp.MustCompile(`%..`)
)

// plainUnquote looks at the text alone: no byte may be quoted that is written as it is.
func plainUnquote(text string) impl.Unquoted {
	if text == "%" {
		return impl.Unquoted{Good: true}
	}
	if !quotedText.MatchString(text) {
		return impl.Unquoted{}
	}
	good := true
	data := quotedByte.ReplaceAllStringFunc(text, func(quoted string) string {
		b, _ := strconv.ParseUint(quoted[1:], 16, 8)
		good = good && (b < 33 || b > 126 || b == 37)
		return string([]byte{byte(b)})
	})
	if !good || len(data) > 65536 {
		return impl.Unquoted{}
	}
	return impl.Unquoted{Good: true, Data: data}
}

// form is a row of the table in 14.2: what is written, the line's kind and the call's.
type form struct {
	text       string
	line, call int64
}

func forms() []form {
	return []form{
		{"create P", 1, 1}, {"mkdir P", 1, 2}, {"unlink P", 1, 3}, {"rmdir P", 1, 4}, {"rename P Q", 1, 5}, {"link P Q", 1, 9}, {"symlink P Q", 1, 10},
		{"append P D", 1, 8}, {"write P N D", 1, 6}, {"fill P N S W", 1, 6}, {"trunc P S", 1, 7}, {"read P N S", 1, 17},
		{"stat P", 1, 18}, {"lstat P", 1, 19}, {"list P", 1, 20}, {"readlink P", 1, 21}, {"open P", 1, 14}, {"close H", 1, 13}, {"fstat H", 1, 16},
		{"pwrite H N D", 1, 11}, {"ftrunc H S", 1, 12}, {"pread H N S", 1, 15}, {"sync", 1, 22}, {"checkpoint", 1, 23}, {"space", 1, 24}, {"log", 1, 25},
		{"tree", 2, 0}, {"check", 3, 0}, {"arm N K..", 4, 0}, {"crash K..", 5, 0}, {"mount", 6, 0},
	}
}

const numberPattern = `(?:0|-?[1-9][0-9]{0,8})`

// pattern is what a line of this form looks like.
func (f form) pattern() *regexp.Regexp {
	fields := strings.Fields(f.text)
	for i, field := range fields[1:] {
		switch field {
		case "P", "Q", "D":
			fields[i+1] = ` ([^ ]+)`
		case "W":
			fields[i+1] = ` ([a-z])`
		case "K..":
			fields[i+1] = `((?: ` + numberPattern + `)*)`
		default:
			fields[i+1] = ` (` + numberPattern + `)`
		}
	}
	return regexp.MustCompile(`\A` + strings.Join(fields, "") + `\z`)
}

var linePatterns = func() (list []*regexp.Regexp) {
	for _, f := range forms() {
		list = append(list, f.pattern())
	}
	return list
}()

func plainLine(line []byte) impl.Line {
	if len(line) > 65536 {
		return impl.Line{}
	}
	for i, f := range forms() {
		if found := linePatterns[i].FindSubmatch(line); found != nil {
			l, ok := f.read(found[1:])
			if ok {
				return l
			}
		}
	}
	return impl.Line{}
}

// read is the line of a form whose fields these are; false if they do not fit after all.
func (f form) read(found [][]byte) (impl.Line, bool) {
	l := impl.Line{Kind: f.line, Call: impl.Call{Kind: f.call}}
	good := true
	number := func(b []byte) int64 {
		n, err := strconv.Atoi(string(b))
		good = good && err == nil
		return int64(n)
	}
	for i, letter := range strings.Fields(f.text)[1:] {
		field := found[i]
		switch letter {
		case "P":
			l.Call.Path = string(field)
		case "Q":
			l.Call.To = string(field)
		case "H":
			l.Call.Handle = number(field)
		case "N":
			l.Call.Offset = number(field)
		case "S":
			l.Call.Size = number(field)
		case "D":
			u := plainUnquote(string(field))
			l.Call.Data, good = u.Data, good && u.Good
		case "W":
			// Here S was no size, but a length.
			n := l.Call.Size
			l.Call.Size = 0
			if n < 0 || n > 3000 {
				return impl.Line{}, false
			}
			l.Call.Data = alphabet(field[0], int(n))
		case "K..":
			for _, k := range bytes.Fields(field) {
				l.Nums = append(l.Nums, number(k))
			}
			good = good && len(l.Nums) <= 600
		}
	}
	if f.line == impl.LineArm {
		n := l.Call.Offset
		l.Call.Offset = 0
		return impl.Line{Kind: f.line, Nums: append([]int64{n}, l.Nums...)}, good && n >= 1
	}
	return l, good
}

// alphabet are so many letters from this one on, a behind z.
func alphabet(first byte, n int) string {
	return strings.Repeat("abcdefghijklmnopqrstuvwxyz", n/26+2)[first-'a':][:n]
}

// spoken writes a line from its fields. What fill writes is a write.
func spoken(l impl.Line) string {
	if l.Kind == impl.LineArm || l.Kind == impl.LineCrash {
		return strings.Join(strings.Fields(map[int64]string{4: "arm ", 5: "crash "}[l.Kind]+strings.Trim(fmt.Sprint(l.Nums), "[]")), " ")
	}
	c := l.Call
	at := slices.IndexFunc(forms(), func(f form) bool { return f.line == l.Kind && f.call == c.Kind })
	fields := strings.Fields(forms()[at].text)
	for i, letter := range fields[1:] {
		fields[i+1] = map[string]string{"P": c.Path, "Q": c.To, "H": fmt.Sprint(c.Handle), "N": fmt.Sprint(c.Offset), "S": fmt.Sprint(c.Size), "D": plainQuote(c.Data)}[letter]
	}
	return strings.Join(fields, " ")
}

// said is a call as a line.
func said(c impl.Call) string {
	return spoken(impl.Line{Kind: impl.LineCall, Call: c})
}

func plainFormat(c impl.Call, a impl.Answer) string {
	if a.Code != 0 {
		return fmt.Sprint("error ", a.Code)
	}
	switch s := a.Stat; c.Kind {
	case 15, 17, 21:
		return "data " + plainQuote(a.Data)
	case 14:
		return fmt.Sprint("handle ", a.Handle)
	case 16, 18, 19:
		return fmt.Sprintf("stat %d %d %d %d", s.Kind, s.Links, s.Size, s.Blocks)
	case 20:
		out := "names"
		for _, name := range a.Names {
			out += " " + name
		}
		return out
	case 24:
		return fmt.Sprintf("space %d %d", s.Size, s.Blocks)
	case 25:
		return fmt.Sprintf("log %d %d %d %d %d", a.State.Seq, a.State.Head, a.State.Used, a.State.Running, a.State.Committed)
	}
	return "ok"
}

// plainTreeText is what is told of nodes, without the last line end.
func plainTreeText(nodes []impl.Node) string {
	out := ""
	for _, n := range nodes {
		out += fmt.Sprintf("%s %s %d %d %d %d", []string{"", "file", "dir", "link"}[n.Kind], n.Path, n.Inode, n.Links, n.Size, n.Blocks)
		if n.Kind != impl.KindDir {
			out += " " + plainQuote(n.Data)
		}
		out += "\n"
	}
	return out + "end"
}

// plainMachine is the machine of 14.4. While it is up, disk is the one that was mounted, and limit that of the run on it; while it is down,
// disk is what is left, and limit how many operations there may be. A limit below 0 is none.
type plainMachine struct {
	up    bool
	disk  impl.Disk
	calls []impl.Call
	limit int64
	keep  []int64
}

func newPlainMachine(g impl.Geometry) *plainMachine {
	return &plainMachine{up: true, disk: impl.Mkfs(g), limit: -1}
}

// now is the run up to here; of a machine that is down there is only its disk.
func (m *plainMachine) now() impl.RunResult {
	if !m.up {
		return impl.RunResult{Disk: m.disk}
	}
	return impl.Run(m.disk, m.calls, -1)
}

// fail is the crash that was armed, in a run that was stopped.
func (m *plainMachine) fail(r impl.RunResult) string {
	*m = plainMachine{disk: impl.DiskCrash(r.Disk, m.keep), limit: -1}
	return "crashed"
}

func (m *plainMachine) call(c impl.Call) string {
	if !m.up {
		return "down"
	}
	calls := append(slices.Clip(m.calls), c)
	r := impl.Run(m.disk, calls, m.limit)
	if r.Stopped {
		return m.fail(r)
	}
	m.calls = calls
	return plainFormat(c, r.Answers[len(calls)-1])
}

func (m *plainMachine) mount() string {
	if m.up {
		return "up"
	}
	r := impl.Run(m.disk, nil, m.limit)
	switch {
	case r.Code != 0:
		return fmt.Sprint("error ", r.Code)
	case r.Stopped:
		return m.fail(r)
	}
	m.up, m.calls = true, nil
	return "mounted"
}

func (m *plainMachine) answer(l impl.Line) string {
	switch l.Kind {
	case impl.LineCall:
		return m.call(l.Call)
	case impl.LineMount:
		return m.mount()
	case impl.LineTree:
		if !m.up {
			return "down"
		}
		return plainTreeText(impl.Tree(m.disk, m.calls).Nodes)
	case impl.LineCheck:
		return strings.Join(append([]string{"check"}, strings.Fields(strings.Trim(fmt.Sprint(impl.Check(m.now().Disk)), "[]"))...), " ")
	case impl.LineArm:
		m.limit, m.keep = m.now().Ops+l.Nums[0]-1, l.Nums[1:]
		return "armed"
	case impl.LineCrash:
		r := m.now()
		if m.limit >= 0 {
			m.limit -= r.Ops
		}
		m.up, m.disk = false, impl.DiskCrash(r.Disk, l.Nums)
		return "crashed"
	}
	return "bad"
}

// plainTextLines are the lines of a text.
func plainTextLines(text []byte) []string {
	var lines []string
	for len(text) > 0 {
		line, rest, _ := bytes.Cut(text, []byte("\n"))
		lines = append(lines, string(line))
		text = rest
	}
	return lines
}

func plainServe(text []byte, g impl.Geometry) string {
	if _, ok := plainPlaces(g); !ok || len(text) > 65536 || len(plainTextLines(text)) > 400 {
		return ""
	}
	m := newPlainMachine(g)
	out := ""
	for _, line := range plainTextLines(text) {
		answer := m.answer(plainLine([]byte(line))) + "\n"
		if len(out)+len(answer) > 1048576 {
			break
		}
		out += answer
	}
	return out
}

// scriptOf has a line end behind each line, so that an empty one at the end is one too.
func scriptOf(lines []string) []byte {
	return []byte(strings.Join(append(slices.Clip(lines), ""), "\n"))
}

// checkServe holds Serve of a script against the document, and tells its answers, line by line of the reply.
func checkServe(t *testing.T, name string, g impl.Geometry, lines ...string) []string {
	t.Helper()
	text := scriptOf(lines)
	got, want := string(impl.Serve(text, g)), plainServe(text, g)
	if got != want {
		sameReplies(t, name, lines, got, want)
	}
	return plainTextLines([]byte(got))
}

// sameReplies tells where two replies part.
func sameReplies(t *testing.T, name string, lines []string, got, want string) {
	t.Helper()
	script := fmt.Sprintf("the script is %.2000s", fmt.Sprintf("%.60q", lines))
	a, b := strings.Split(got, "\n"), strings.Split(want, "\n")
	for i := range min(len(a), len(b)) {
		if a[i] != b[i] {
			t.Fatalf("%s: line %d of the reply is %.200q, not %.200q; %s", name, i, a[i], b[i], script)
		}
	}
	t.Fatalf("%s: %d bytes are answered, not %d; %s", name, len(got), len(want), script)
}
