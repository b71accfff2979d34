package tests

import (
	"math/rand"
	"slices"
	"strings"

	"loop.example/s01525/impl"
)

// Chapter 10 once more, written down plainly.

func hasOddByte(text string) bool {
	return slices.ContainsFunc([]byte(text), func(x byte) bool { return x <= 32 || x >= 127 })
}

func isName(name string) bool {
	return name != "" && len(name) <= 13 && !hasOddByte(name) && strings.Count(name, "/") == 0 && name != "." && name != ".."
}

// plainSplit cuts the path by the library, and looks at the parts from the left.
func plainSplit(path string) impl.PathResult {
	if path == "/" {
		return impl.PathResult{}
	}
	if len(path) > 240 || !strings.HasPrefix(path, "/") {
		return impl.PathResult{Code: 30}
	}
	parts := strings.Split(path, "/")[1:]
	for _, part := range parts {
		if len(part) > 13 && !hasOddByte(part) {
			return impl.PathResult{Code: 31}
		}
		if !isName(part) {
			return impl.PathResult{Code: 30}
		}
	}
	if len(parts) > 16 {
		return impl.PathResult{Code: 30}
	}
	return impl.PathResult{Names: parts}
}

func isEntry(e impl.Entry) bool {
	return 1 <= e.Inode && e.Inode <= 256 && isName(e.Name)
}

// isDirectory holds each entry against each one behind it.
func isDirectory(entries []impl.Entry) bool {
	for i, e := range entries {
		if !isEntry(e) {
			return false
		}
		for _, other := range entries[i+1:] {
			if other.Name == e.Name {
				return false
			}
		}
	}
	return len(entries) <= 160
}

// plainEntry are the bytes of an entry, valid or not; nil if they have no place.
func plainEntry(e impl.Entry) []byte {
	if e.Inode < 0 || e.Inode > 65535 || len(e.Name) > 13 {
		return nil
	}
	b := append([]byte{byte(e.Inode / 256), byte(e.Inode % 256), byte(len(e.Name))}, e.Name...)
	return append(b, make([]byte, 16-len(b))...)
}

func parseEntry(b []byte) impl.Entry {
	return impl.Entry{Inode: parsed(b, 0, 2), Name: string(b[3:min(3+int(b[2]), 16)])}
}

func entryKind() journalKind {
	return journalKind{
		name: "entry", zero: impl.Entry{},
		encode: func(thing any) []byte { return impl.EncodeEntry(thing.(impl.Entry)) },
		decode: func(b []byte) (bool, any) { r := impl.DecodeEntry(b); return r.Good, r.Entry },
		plain:  func(thing any) []byte { return plainEntry(thing.(impl.Entry)) },
		parse:  func(b []byte) any { return parseEntry(b) },
		valid:  func(thing any) bool { return isEntry(thing.(impl.Entry)) },
		drawn: func(draw *rand.Rand) any {
			return impl.Entry{Inode: 1 + draw.Int63n(256), Name: drawnName(draw)}
		},
	}
}

// dirKind takes data of any length: what is no entry at their end is not told, and is missing when it is written again.
func dirKind() journalKind {
	return journalKind{
		name: "directory", zero: []impl.Entry{},
		encode: func(thing any) []byte { return impl.EncodeDir(thing.([]impl.Entry)) },
		decode: func(b []byte) (bool, any) { r := impl.DecodeDir(b); return r.Good, r.Entries },
		plain: func(thing any) []byte {
			data := []byte{}
			for _, e := range thing.([]impl.Entry) {
				b := plainEntry(e)
				if b == nil {
					return nil
				}
				data = append(data, b...)
			}
			return data
		},
		parse: func(b []byte) any {
			var entries []impl.Entry
			for ; len(b) >= 16; b = b[16:] {
				entries = append(entries, parseEntry(b))
			}
			return entries
		},
		valid: func(thing any) bool { return isDirectory(thing.([]impl.Entry)) },
		drawn: func(draw *rand.Rand) any { return drawnDir(draw, draw.Intn(12)) },
	}
}

// drawnName is a valid name of any length, of few letters now and then, so that some begin alike.
func drawnName(draw *rand.Rand) string {
	for {
		name := make([]byte, 1+draw.Intn(13))
		most := []int{3, 94}[draw.Intn(2)]
		for i := range name {
			name[i] = byte(33 + draw.Intn(most))
		}
		if isName(string(name)) {
			return string(name)
		}
	}
}

// drawnDir are so many valid entries with different names.
func drawnDir(draw *rand.Rand, n int) []impl.Entry {
	var entries []impl.Entry
	seen := map[string]bool{}
	for len(entries) < n {
		name := drawnName(draw)
		if !seen[name] {
			entries = append(entries, impl.Entry{Inode: 1 + draw.Int63n(256), Name: name})
		}
		seen[name] = true
	}
	return entries
}

// plainFind goes from the end to the beginning, so that the first one is what is left.
func plainFind(entries []impl.Entry, name string) int64 {
	found := int64(-1)
	for i := len(entries) - 1; i >= 0; i-- {
		if entries[i].Name == name {
			found = int64(i)
		}
	}
	return found
}

func plainRemove(entries []impl.Entry, at int64) []impl.Entry {
	var left []impl.Entry
	for i, e := range entries {
		if int64(i) == at {
			e = entries[len(entries)-1]
		}
		left = append(left, e)
	}
	if at >= 0 && at < int64(len(entries)) {
		left = left[:len(left)-1]
	}
	return left
}

// isAhead goes byte by byte; what is the beginning of another comes ahead of it.
func isAhead(a, b string) bool {
	for i := 0; i < len(a) && i < len(b); i++ {
		if a[i] != b[i] {
			return a[i] < b[i]
		}
	}
	return len(a) < len(b)
}

// plainNames puts each name ahead of the first one that it is ahead of.
func plainNames(entries []impl.Entry) []string {
	var names []string
	if len(entries) > 1000 {
		return nil
	}
	for _, e := range entries {
		at := 0
		for at < len(names) && !isAhead(e.Name, names[at]) {
			at++
		}
		names = slices.Insert(names, at, e.Name)
	}
	return names
}
