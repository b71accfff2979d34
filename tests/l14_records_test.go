package tests

import (
	"bytes"
	"fmt"
	"math"
	"math/rand"
	"reflect"
	"testing"

	"loop.example/s01525/impl"
)

// recordKinds are all that is encoded and decoded, in the log and out of it.
func recordKinds() []journalKind {
	return append(journalKinds(), geometryKind(), inodeKind(), pointersKind(), entryKind(), dirKind())
}

// spots are all numbers, texts and truth values within a value that may be set, and its lists.
func spots(v reflect.Value, into *[]reflect.Value) {
	switch v.Kind() {
	case reflect.Struct:
		for i := range v.NumField() {
			spots(v.Field(i), into)
		}
	case reflect.Slice:
		wide := reflect.MakeSlice(v.Type(), v.Len(), v.Len())
		reflect.Copy(wide, v)
		v.Set(wide)
		*into = append(*into, v)
		for i := range v.Len() {
			spots(v.Index(i), into)
		}
	default:
		*into = append(*into, v)
	}
}

// spoilt is a thing of its own in which one drawn number, text or list is another than before.
func spoilt(draw *rand.Rand, thing any) any {
	v := reflect.New(reflect.TypeOf(thing)).Elem()
	v.Set(reflect.ValueOf(thing))
	var list []reflect.Value
	spots(v, &list)
	switch at := list[draw.Intn(len(list))]; at.Kind() {
	case reflect.Int64:
		numbers := []int64{at.Int() + 1, at.Int() - 1, at.Int() + 256, at.Int() + 65536, -at.Int(), 0, 1, 2, 16, 17, 255, 256, 257, 512, 513, 2047, 2048, 2560, 2561, 65535, 4294967295, 4294967296, math.MaxInt64, math.MinInt64}
		at.SetInt(numbers[draw.Intn(len(numbers))])
	case reflect.String:
		texts := append(oddNames(), at.String()+"x", "x"+at.String(), at.String()+"/", "a", at.String()+"\x00")
		at.SetString(texts[draw.Intn(len(texts))])
	case reflect.Bool:
		at.SetBool(!at.Bool())
	case reflect.Slice:
		switch n := at.Len(); {
		case n == 0 || draw.Intn(3) == 0:
			at.Set(reflect.Append(at, reflect.Zero(at.Type().Elem())))
		case draw.Intn(2) == 0:
			at.Set(at.Slice(0, n-1))
		default:
			at.Set(reflect.Append(at, at.Index(draw.Intn(n))))
		}
	}
	return v.Interface()
}

// Promise 4 once more, of all records: what is valid encodes to its bytes, which are decoded to what encodes to them again; what is not
// valid encodes to nothing.
func TestRecordsThereAndBack(t *testing.T) {
	t.Parallel()
	draw := rand.New(rand.NewSource(1408))
	for _, k := range recordKinds() {
		valid, none := 0, 0
		for range 1500 {
			thing := k.drawn(draw)
			if !k.valid(thing) {
				t.Fatalf("%s %v is not valid", k.name, thing)
			}
			checkThing(t, k, thing)
			if b := k.encode(thing); len(b) > 0 {
				checkBlock(t, k, b)
				b[draw.Intn(len(b))] ^= 1 << draw.Intn(8)
				checkBlock(t, k, b)
			}
			for range 4 {
				other := spoilt(draw, thing)
				checkThing(t, k, other)
				if k.valid(other) {
					valid++
				} else {
					none++
				}
			}
		}
		if valid < 100 || none < 1000 {
			t.Errorf("%s: %d were valid with one thing changed, %d not", k.name, valid, none)
		}
	}
}

// recordsOn holds all records of a disk that is whole against promise 4, and counts them.
func recordsOn(t *testing.T, name string, d impl.Disk, count map[string]int) {
	t.Helper()
	holds := func(k journalKind, b []byte) {
		t.Helper()
		good, thing := k.decode(b)
		if !good || !bytes.Equal(k.encode(thing), b) {
			t.Fatalf("%s: %s %v is good: %v, and is encoded as %v", name, k.name, b, good, k.encode(thing))
		}
		count[k.name]++
	}
	block := func(n int64) []byte { return d.Durable[n*64:][:64] }
	holds(geometryKind(), block(0))
	holds(superKind(), block(1))
	g := impl.DecodeSuper(block(0)).Geometry
	p, _ := plainPlaces(g)
	for _, line := range impl.Dump(d) {
		if k := line.Kind; line.Txn > 0 && 2 <= k && k <= 4 {
			holds(journalKinds()[k-1], block(1+line.Position))
		}
	}
	for i := range g.Inodes {
		record := d.Durable[p.Table*64+i*32:][:32]
		holds(inodeKind(), record)
		n := impl.DecodeInode(record).Inode
		blocks := n.Direct
		if n.Indirect != 0 {
			holds(pointersKind(), block(n.Indirect))
			blocks = append(blocks, impl.DecodePointers(block(n.Indirect))...)
		}
		if n.Kind != impl.KindDir {
			continue
		}
		var data []byte
		for at := int64(0); at < n.Size; at += 64 {
			data = append(data, block(blocks[at/64])...)
		}
		holds(dirKind(), data[:n.Size])
		for at := int64(0); at < n.Size; at += 16 {
			holds(entryKind(), data[at:at+16])
		}
	}
}

// Promise 4 of what the file system itself writes.
func TestRecordsOnDisks(t *testing.T) {
	t.Parallel()
	count := map[string]int{}
	plainScripts(rand.New(rand.NewSource(1409)), 30, 100, func(name string, g impl.Geometry, calls []impl.Call) {
		d := impl.Mkfs(g)
		calls = append(calls, unlinking("/a"), unlinking("/b"), creating("/end"), writing("/end", 0, "x"), checkpointing(), unlinking("/end"), mkdir("/end"), syncing())
		recordsOn(t, name, impl.Run(d, calls, -1).Disk, count)
		recordsOn(t, name, impl.Recover(impl.Run(d, calls[:len(calls)/2], -1).Disk, -1).Disk, count)
	})
	for _, k := range recordKinds() {
		if count[k.name] < 20 {
			t.Error(fmt.Sprint(k.name, ": only ", count[k.name]))
		}
	}
}
