package tests

import (
	"fmt"
	"math/rand"
	"slices"
	"strings"
	"testing"

	"loop.example/s01525/impl"
)

// checkLine holds a line against the document; if it is taken, promise 19: written again from its fields it is the same line.
func checkLine(t *testing.T, line string) impl.Line {
	t.Helper()
	got, want := impl.ParseLine([]byte(line)), plainLine([]byte(line))
	if value(got) != value(want) {
		t.Fatalf("%.200q (%d bytes) is %.300s, not %.300s", line, len(line), value(got), value(want))
	}
	if got.Kind == impl.LineBad {
		if value(got) != value(impl.Line{}) {
			t.Fatalf("%.200q is bad, and tells %.200s", line, value(got))
		}
		return got
	}
	again := spoken(got)
	if fields := strings.Split(line, " "); fields[0] == "fill" {
		if value(impl.ParseLine([]byte(again))) != value(got) {
			t.Fatalf("%.200q, written as a write, is another line", line)
		}
		// The first letter of no letters is nowhere else.
		letter := fields[4]
		if len(got.Call.Data) > 0 {
			letter = got.Call.Data[:1]
		}
		again = fmt.Sprintf("fill %s %d %d %s", got.Call.Path, got.Call.Offset, len(got.Call.Data), letter)
	}
	if again != line {
		t.Fatalf("%.200q, written again, is %.200q", line, again)
	}
	return got
}

func badLine(t *testing.T, line string) {
	t.Helper()
	if l := checkLine(t, line); l.Kind != impl.LineBad {
		t.Errorf("%.200q is of the kind %d", line, l.Kind)
	}
}

func takenLine(t *testing.T, line string) impl.Line {
	t.Helper()
	l := checkLine(t, line)
	if l.Kind == impl.LineBad {
		t.Errorf("%.200q is bad", line)
	}
	return l
}

// lineRows are the rows of the table in 14.2, each with an example that has all its fields, told by hand.
func lineRows() []struct {
	line string
	want impl.Line
} {
	call := func(c impl.Call) impl.Line { return impl.Line{Kind: impl.LineCall, Call: c} }
	return []struct {
		line string
		want impl.Line
	}{
		{"create /a", call(creating("/a"))}, {"mkdir /a/b", call(mkdir("/a/b"))}, {"unlink /c", call(unlinking("/c"))}, {"rmdir /d", call(rmdir("/d"))},
		{"rename /a /b", call(renaming("/a", "/b"))}, {"link /c /d", call(linking("/c", "/d"))}, {"symlink /e /f", call(pointing("/e", "/f"))},
		{"append /a x%20y", call(appending("/a", "x y"))}, {"write /a 5 x%25y", call(writing("/a", 5, "x%y"))}, {"fill /b 7 4 y", call(writing("/b", 7, "yzab"))},
		{"trunc /a 12", call(truncating("/a", 12))}, {"read /a 3 4", call(reading("/a", 3, 4))},
		{"stat /a", call(statOf("/a"))}, {"lstat /a", call(lstatOf("/a"))}, {"list /a", call(listOf("/a"))}, {"readlink /a", call(readlink("/a"))}, {"open /a", call(opening("/a"))},
		{"close 3", call(closing(3))}, {"fstat 4", call(fstatOf(4))}, {"pwrite 2 9 %00", call(pwriting(2, 9, "\x00"))}, {"ftrunc 5 6", call(ftruncating(5, 6))}, {"pread 7 8 9", call(preading(7, 8, 9))},
		{"sync", call(syncing())}, {"checkpoint", call(checkpointing())}, {"space", call(spaceLeft())}, {"log", call(logNow())},
		{"tree", impl.Line{Kind: impl.LineTree}}, {"check", impl.Line{Kind: impl.LineCheck}}, {"mount", impl.Line{Kind: impl.LineMount}},
		{"arm 3", impl.Line{Kind: impl.LineArm, Nums: []int64{3}}}, {"arm 3 1 0 -5", impl.Line{Kind: impl.LineArm, Nums: []int64{3, 1, 0, -5}}},
		{"crash", impl.Line{Kind: impl.LineCrash}}, {"crash 1 0 -2", impl.Line{Kind: impl.LineCrash, Nums: []int64{1, 0, -2}}},
	}
}

func TestLinesByHand(t *testing.T) {
	commands := map[string]bool{}
	for _, row := range lineRows() {
		commands[strings.Fields(row.line)[0]] = true
		if got := takenLine(t, row.line); value(got) != value(row.want) {
			t.Errorf("%q is %s, not %s", row.line, value(got), value(row.want))
		}
	}
	if len(commands) != 31 || len(forms()) != 31 {
		t.Error(len(commands), "commands, and", len(forms()), "forms")
	}
}

// Each row with a field less, and with one more; only what arm and crash name can be more or less.
func TestLinesFieldsMissing(t *testing.T) {
	for _, row := range lineRows() {
		fields := strings.Split(row.line, " ")
		open := row.want.Kind == impl.LineArm || row.want.Kind == impl.LineCrash
		least := map[int64]int{impl.LineArm: 2, impl.LineCrash: 1}[row.want.Kind]
		for n := range fields {
			line := strings.Join(fields[:n], " ")
			if open && n >= least {
				takenLine(t, line)
			} else {
				badLine(t, line)
			}
		}
		for _, more := range []string{"1", "x", "%", "0", "/a", "z"} {
			if line := row.line + " " + more; open && (more == "0" || more == "1") {
				takenLine(t, line)
			} else {
				badLine(t, line)
			}
			for at := range fields {
				checkLine(t, strings.Join(slices.Insert(slices.Clone(fields), at, more), " "))
			}
		}
		for at := range fields {
			checkLine(t, strings.Join(slices.Delete(slices.Clone(fields), at, at+1), " "))
		}
	}
}

// Each row with a blank where none may be, and with a tab, which is no blank: it stands within a field.
func TestLinesBlanks(t *testing.T) {
	for _, row := range lineRows() {
		badLine(t, " "+row.line)
		badLine(t, row.line+" ")
		badLine(t, "  "+row.line+"  ")
		badLine(t, "\t"+row.line)
		for at, b := range []byte(row.line) {
			if b == ' ' {
				badLine(t, row.line[:at]+" "+row.line[at:])
				badLine(t, row.line[:at]+"  "+row.line[at:])
				badLine(t, row.line[:at]+"\t"+row.line[at+1:])
				badLine(t, row.line[:at]+"\n"+row.line[at+1:])
				badLine(t, row.line[:at]+"\u00a0"+row.line[at+1:])
				checkLine(t, row.line[:at]+row.line[at+1:])
			}
		}
		for _, behind := range []string{"\t", "\n", "\r", "\x00", "\xff"} {
			// Behind a path it is one byte of that.
			if letter := lastField(row.line); letter == "P" || letter == "Q" {
				takenLine(t, row.line+behind)
			} else {
				badLine(t, row.line+behind)
			}
		}
	}
	for _, line := range []string{"", " ", "  ", "\t", "\n", " sync", "sync ", "\x00", "\xff"} {
		badLine(t, line)
	}
}

// lastField is the letter that the table has for the last field of a line.
func lastField(line string) string {
	for _, f := range forms() {
		if letters := strings.Fields(f.text); letters[0] == strings.Fields(line)[0] {
			return letters[len(letters)-1]
		}
	}
	return ""
}

// No other word is a command: not in capital letters, no beginning of one, none with a letter more.
func TestLinesCommands(t *testing.T) {
	names := map[string]bool{}
	for _, row := range lineRows() {
		names[strings.Fields(row.line)[0]] = true
	}
	for _, row := range lineRows() {
		name, rest, _ := strings.Cut(row.line, " ")
		if rest != "" {
			rest = " " + rest
		}
		others := []string{strings.ToUpper(name), strings.ToUpper(name[:1]) + name[1:], name[:len(name)-1] + strings.ToUpper(name[len(name)-1:]), name + "s", "x" + name, name + name, name + ":", "%" + name, name + "%"}
		for n := range len(name) {
			others = append(others, name[:n], name[n+1:])
		}
		for _, other := range others {
			if !names[other] {
				badLine(t, other+rest)
			} else {
				checkLine(t, other+rest)
			}
		}
	}
	for _, line := range []string{"truncate /a 1", "ftruncate 1 1", "pwrite /a 0 x", "write 1 0", "bad", "up", "down", "end", "exit", "run", "help", "armed", "crashed", "mounted", "umount", "# sync", "//", "%", "0", "1 sync"} {
		badLine(t, line)
	}
}

// numberRows are texts that are numbers, and what they are, and texts that are none.
func numberRows() (numbers map[string]int64, none []string) {
	return map[string]int64{
		"0": 0, "1": 1, "9": 9, "10": 10, "-1": -1, "-9": -9, "-10": -10, "99": 99, "100": 100, "600": 600, "123456789": 123456789, "999999999": 999999999, "-123456789": -123456789, "-999999999": -999999999, "100000000": 100000000,
	}, []string{
		"-0", "00", "01", "-01", "-00", "000000000", "0000000001", "+1", "+0", "-", "+", "--1", "-+1", "1-", "1+", "1234567890", "1000000000", "-1234567890", "-1000000000", "9999999999", "2147483648", "4294967296", "9223372036854775807",
		"-9223372036854775808", "9223372036854775808", "99999999999999999999999", strings.Repeat("9", 400), "0" + strings.Repeat("0", 400), "1_000", "0x1", "0b1", "0o7", "1e3", "1.0", "1.", ".1", "1,2", "x", "a", "%31", "%", "1%", "١", "１", "1x", "x1", "1\t", "\t1", "1\n", "1\x00", "-x", "−1", "NaN", "inf", "true",
	}
}

// Every field that is a number, in every row.
func TestLinesNumbers(t *testing.T) {
	numbers, none := numberRows()
	for _, f := range forms() {
		fields := strings.Fields(f.text)
		for at, letter := range fields {
			if !slices.Contains([]string{"N", "S", "H", "K.."}, letter) {
				continue
			}
			with := func(text string) string {
				line := []string{fields[0]}
				for i, other := range fields[1:] {
					line = append(line, map[string]string{"P": "/a", "Q": "/b", "D": "d", "W": "w", "N": "1", "S": "1", "H": "1", "K..": "1"}[other])
					if i+1 == at {
						line[i+1] = text
					}
				}
				return strings.Join(line, " ")
			}
			for text, n := range numbers {
				if f.line == impl.LineArm && letter == "N" && n < 1 || fields[0] == "fill" && letter == "S" && (n < 0 || n > 3000) {
					badLine(t, with(text))
					continue
				}
				l := takenLine(t, with(text))
				if got := map[string]int64{"N": l.Call.Offset, "S": l.Call.Size, "H": l.Call.Handle}[letter]; f.line == impl.LineCall && got != n && fields[0] != "fill" || f.line != impl.LineCall && l.Nums[at-1] != n {
					t.Errorf("%q: the number is %d", with(text), got)
				}
			}
			for _, text := range none {
				badLine(t, with(text))
			}
		}
	}
}

func TestLinesFill(t *testing.T) {
	for line, data := range map[string]string{
		"fill /a 0 0 a": "", "fill /a 0 0 z": "", "fill /a 0 1 a": "a", "fill /a 0 1 z": "z", "fill /a 0 2 z": "za", "fill /a 0 3 y": "yza", "fill /a 0 26 a": "abcdefghijklmnopqrstuvwxyz", "fill /a 0 27 a": "abcdefghijklmnopqrstuvwxyza",
		"fill /a 0 27 b": "bcdefghijklmnopqrstuvwxyzab", "fill /a 0 54 z": "zabcdefghijklmnopqrstuvwxyzabcdefghijklmnopqrstuvwxyza", "fill /a 0 4 m": "mnop",
	} {
		if l := takenLine(t, line); l.Call != writing("/a", 0, data) {
			t.Errorf("%q is %+v", line, l.Call)
		}
	}
	for first := byte('a'); first <= 'z'; first++ {
		for _, n := range []int{0, 1, 25, 26, 27, 64, 2560, 2999, 3000} {
			l := takenLine(t, fmt.Sprintf("fill x -7 %d %c", n, first))
			if len(l.Call.Data) != n || l.Call.Offset != -7 || l.Call.Size != 0 || l.Call.Path != "x" || n > 0 && l.Call.Data[0] != first {
				t.Errorf("%d letters from %c on: %+v", n, first, l.Call)
			}
		}
	}
	for _, line := range []string{
		"fill /a 0 -1 a", "fill /a 0 3001 a", "fill /a 0 3001 z", "fill /a 0 999999999 a", "fill /a 0 -999999999 a", "fill /a 0 1 ab", "fill /a 0 1 aa", "fill /a 0 1 A", "fill /a 0 1 Z", "fill /a 0 1 `", "fill /a 0 1 {", "fill /a 0 1 0", "fill /a 0 1 1", "fill /a 0 1 %", "fill /a 0 1 @", "fill /a 0 1 [",
		"fill /a 0 1 -", "fill /a 0 1 \x00", "fill /a 0 1 \xff", "fill /a 0 1 é", "fill /a 0 1 %61", "fill /a 0 a 1", "fill /a a 1 0", "fill /a 0 1", "fill /a 0 a", "fill 0 1 a", "fill /a 0 0 A", "fill /a 0 0 ab", "fill /a 0 0 %", "fill /a 0 1 a a",
	} {
		badLine(t, line)
	}
	for b := range 256 {
		if line := "fill /a 0 5 " + string([]byte{byte(b)}); 'a' <= b && b <= 'z' {
			takenLine(t, line)
		} else {
			badLine(t, line)
		}
	}
}

// What stands for data: taken if it is good, whatever the data are.
func TestLinesData(t *testing.T) {
	for _, ahead := range []string{"append /a ", "write /a 0 ", "write x -1 ", "pwrite 1 0 ", "pwrite -1 999999999 "} {
		for text, data := range map[string]string{"%": "", "a": "a", "%00": "\x00", "%20": " ", "%25": "%", "%0a": "\n", "%ff%00": "\xff\x00", "0": "0", "-1": "-1", "%2541": "%41", "~": "~"} {
			if l := takenLine(t, ahead+text); l.Call.Data != data {
				t.Errorf("%q has the data %q", ahead+text, l.Call.Data)
			}
		}
		for _, text := range []string{"%41", "%4", "%4G", "%FF", "%%", "a%", "%zz", "a\x00", "\x7f", "\x80", "é", "a\tb", "a\n", "%7E", "%7e", "%21"} {
			badLine(t, ahead+text)
		}
	}
	// What is no data can be a path.
	for _, text := range []string{"%41", "%%", "a%", "é", "%"} {
		takenLine(t, "create "+text)
		takenLine(t, "rename "+text+" "+text)
	}
}

// A path is any field: whether it is one is asked when the call is carried out.
func TestLinesPaths(t *testing.T) {
	for _, path := range []string{"/", "//", "a", "/a/", "..", "/..", "%", "%20", "\t", "\n", "\x00", "\xff", "/a\x00b", "/a\nb", "/é", "0", "-1", "create", "/" + strings.Repeat("x", 300), strings.Repeat("/abc", 40), "\r", "\x7f", "\u2028"} {
		for _, f := range forms() {
			switch fields := strings.Fields(f.text); strings.Join(fields[1:], " ") {
			case "P":
				if l := takenLine(t, fields[0]+" "+path); l.Call != ofPath(f.call, path) {
					t.Errorf("%s of %q is %+v", fields[0], path, l.Call)
				}
			case "P Q":
				if l := takenLine(t, fields[0]+" "+path+" /q"); l.Call != ofTwo(f.call, path, "/q") {
					t.Errorf("%s of %q is %+v", fields[0], path, l.Call)
				}
				if l := takenLine(t, fields[0]+" q "+path); l.Call != ofTwo(f.call, "q", path) {
					t.Errorf("%s to %q is %+v", fields[0], path, l.Call)
				}
			}
		}
	}
}

func TestLinesArmAndCrash(t *testing.T) {
	for _, line := range []string{"arm", "arm 0", "arm -1", "arm -999999999", "arm x", "arm 1 x", "arm 1 1 x 1", "arm 0 1", "arm 1000000000", "arm 1 1000000000", "arm 01", "arm 1 01", "arm 1 -0", "arm 1  1", "arm 1 ", "arm %", "crash x", "crash 1 x", "crash 01", "crash -0", "crash 1000000000", "crash 1  2", "crash ", "crash 1 1 1 x 1 1"} {
		badLine(t, line)
	}
	for line, nums := range map[string][]int64{
		"arm 1": {1}, "arm 999999999": {999999999}, "arm 1 0": {1, 0}, "arm 2 -1 0 1 999999999 -999999999": {2, -1, 0, 1, 999999999, -999999999}, "crash": nil, "crash 0": {0}, "crash -1": {-1}, "crash 0 1 2 -999999999 999999999": {0, 1, 2, -999999999, 999999999},
	} {
		if l := takenLine(t, line); value(l.Nums) != value(nums) || l.Call != (impl.Call{}) {
			t.Errorf("%q has the numbers %v, and the call %+v", line, l.Nums, l.Call)
		}
	}
	for _, k := range []string{" 1", " 0", " -1", " 123456789"} {
		for _, n := range []int{1, 599, 600} {
			if l := takenLine(t, "arm 7"+strings.Repeat(k, n)); len(l.Nums) != n+1 || l.Nums[0] != 7 {
				t.Errorf("arm with %d K has %d numbers", n, len(l.Nums))
			}
			if l := takenLine(t, "crash"+strings.Repeat(k, n)); len(l.Nums) != n {
				t.Errorf("crash with %d K has %d numbers", n, len(l.Nums))
			}
		}
		for _, n := range []int{601, 602, 1000, 6000} {
			badLine(t, "arm 7"+strings.Repeat(k, n))
			badLine(t, "crash"+strings.Repeat(k, n))
		}
	}
	badLine(t, "arm 1"+strings.Repeat(" 1", 599)+" x")
	badLine(t, "crash"+strings.Repeat(" 1", 599)+" x")
}

func TestLinesLength(t *testing.T) {
	for _, ahead := range []string{"create ", "rename /a ", "append /a ", "write /a 0 ", "pwrite 1 0 "} {
		most := strings.Repeat("x", 65536-len(ahead))
		if l := takenLine(t, ahead+most); len(l.Call.Path+l.Call.To+l.Call.Data) < 65520 {
			t.Errorf("%q with %d bytes: %d are left", ahead, len(most), len(l.Call.Path+l.Call.To+l.Call.Data))
		}
		takenLine(t, ahead+most[1:])
		badLine(t, ahead+most+"x")
		badLine(t, ahead+most+most)
	}
	takenLine(t, "append /a "+strings.Repeat("%00", 21842))
	badLine(t, "append /a "+strings.Repeat("%00", 21843))
	badLine(t, strings.Repeat(" ", 65536))
	badLine(t, strings.Repeat("x", 65536))
	badLine(t, strings.Repeat("x ", 32768))
	badLine(t, "sync"+strings.Repeat(" ", 65532))
	badLine(t, "create"+strings.Repeat(" a", 32765))
	badLine(t, "")
}

// A byte of any sort at any place of each row.
func TestLinesEveryByte(t *testing.T) {
	t.Parallel()
	taken := 0
	for _, row := range lineRows() {
		for at := range len(row.line) {
			for b := range 256 {
				line := []byte(row.line)
				line[at] = byte(b)
				if checkLine(t, string(line)).Kind != impl.LineBad {
					taken++
				}
				checkLine(t, row.line[:at]+string([]byte{byte(b)})+row.line[at:])
			}
		}
	}
	if taken < 5000 {
		t.Error("only", taken, "are taken")
	}
}

// Promise 19 of drawn lines: fields of all sorts behind each command.
func TestLinesDrawn(t *testing.T) {
	t.Parallel()
	draw := rand.New(rand.NewSource(1402))
	numbers, none := numberRows()
	var texts []string
	for text := range numbers {
		texts = append(texts, text)
	}
	slices.Sort(texts)
	taken := map[string]int{}
	for range 60000 {
		f := forms()[draw.Intn(len(forms()))]
		fields := strings.Fields(f.text)
		for i, letter := range fields[1:] {
			field := fmt.Sprint(draw.Int63n(2000)*draw.Int63n(2000) - 1000)
			switch {
			case letter == "K..":
				field = strings.Trim(strings.Repeat(" "+field, 1+draw.Intn(5)), " ")
			case letter == "W" && draw.Intn(8) > 0:
				field = string([]byte{byte('a' + draw.Intn(26))})
			case letter == "D" && draw.Intn(8) > 0:
				data := make([]byte, draw.Intn(9))
				draw.Read(data)
				field = plainQuote(string(data))
			case letter == "P" || letter == "Q":
				field = "/" + drawnName(draw)
			case draw.Intn(6) == 0:
				field = texts[draw.Intn(len(texts))]
			case draw.Intn(12) == 0:
				field = none[draw.Intn(len(none))]
			}
			fields[i+1] = field
		}
		if checkLine(t, strings.Join(fields, " ")).Kind != impl.LineBad {
			taken[fields[0]]++
		}
	}
	for _, f := range forms() {
		if name := strings.Fields(f.text)[0]; taken[name] < 100 {
			t.Error(name, "is taken", taken[name], "times")
		}
	}
}
