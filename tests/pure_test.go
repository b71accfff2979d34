package tests

import (
	"fmt"
	"reflect"
	"sort"
	"strings"
	"testing"
)

// pureCase is a call of a function that must change nothing and share nothing (promise 1).
// make gives new arguments, the same ones each time.
type pureCase struct {
	name string
	fn   any
	make func() []any
}

// checkPure holds one call against promise 1.
func checkPure(t *testing.T, c pureCase) {
	t.Helper()
	args := c.make()
	before := depth(args)
	answer := callOf(c.fn, args)
	told := value(answer)
	if depth(args) != before {
		t.Errorf("%s: an argument was changed", c.name)
		return
	}
	checkApart(t, c.name, args, answer)
	if again := value(callOf(c.fn, args)); again != told {
		t.Errorf("%s: the same call answers otherwise the second time", c.name)
	}
	if other := value(callOf(c.fn, c.make())); other != told {
		t.Errorf("%s: equal arguments give another answer", c.name)
	}
	if roomy := value(callOf(c.fn, withRoom(c.make()))); roomy != told {
		t.Errorf("%s: the answer hangs on a capacity", c.name)
	}
	scribble(reflect.ValueOf(&answer).Elem())
	if depth(args) != before {
		t.Errorf("%s: writing over the answer changes an argument", c.name)
	}
	answer = callOf(c.fn, c.make())
	if value(answer) != told {
		t.Errorf("%s: what was done with an answer is seen in the next one", c.name)
	}
	args = c.make()
	answer = callOf(c.fn, args)
	scribble(reflect.ValueOf(&args).Elem())
	if value(answer) != told {
		t.Errorf("%s: writing over the arguments changes the answer", c.name)
	}
	checkRoom(t, c)
}

// checkRoom gives lists with room behind their ends: what stands there must not be written over.
func checkRoom(t *testing.T, c pureCase) {
	t.Helper()
	args := withRoom(c.make())
	before := depth(args)
	answer := callOf(c.fn, args)
	if depth(args) != before {
		t.Errorf("%s: something was written behind the end of an argument", c.name)
	}
	checkApart(t, c.name, args, answer)
}

// checkApart asks whether a list of the answer shares memory with an argument or with another list of the answer.
func checkApart(t *testing.T, name string, args []any, answer any) {
	t.Helper()
	var given, told []extent
	extents(reflect.ValueOf(args), &given)
	extents(reflect.ValueOf(answer), &told)
	sort.Slice(told, func(i, j int) bool { return told[i].from < told[j].from })
	for i := 1; i < len(told); i++ {
		if told[i-1].meets(told[i]) {
			t.Errorf("%s: two lists of the answer share memory", name)
			return
		}
	}
	for _, g := range given {
		i := sort.Search(len(told), func(i int) bool { return told[i].to > g.from })
		if i < len(told) && told[i].meets(g) {
			t.Errorf("%s: the answer shares memory with an argument", name)
			return
		}
	}
}

// extent is the memory of one list, what lies between its length and its capacity too.
type extent struct {
	from, to uintptr
}

func (e extent) meets(o extent) bool {
	return e.from < o.to && o.from < e.to
}

func callOf(fn any, args []any) any {
	in := make([]reflect.Value, len(args))
	for i, a := range args {
		in[i] = reflect.ValueOf(a)
	}
	return reflect.ValueOf(fn).Call(in)[0].Interface()
}

// value writes out a value so that nil and the empty list are the same, and capacities play no part.
func value(v any) string {
	var out strings.Builder
	writeOut(&out, reflect.ValueOf(v), false)
	return out.String()
}

// depth writes out a value with what lies behind the ends of its lists, up to their capacities.
func depth(v any) string {
	var out strings.Builder
	writeOut(&out, reflect.ValueOf(v), true)
	return out.String()
}

func writeOut(out *strings.Builder, v reflect.Value, room bool) {
	switch v.Kind() {
	case reflect.Interface:
		writeOut(out, v.Elem(), room)
	case reflect.Struct:
		out.WriteString("{")
		for i := range v.NumField() {
			writeOut(out, v.Field(i), room)
			out.WriteString(" ")
		}
		out.WriteString("}")
	case reflect.Slice:
		fmt.Fprint(out, "[", v.Len(), ":")
		if room {
			v = v.Slice(0, v.Cap())
		}
		if v.Type().Elem().Kind() == reflect.Uint8 {
			fmt.Fprintf(out, "%x", v.Bytes())
		} else {
			for i := range v.Len() {
				writeOut(out, v.Index(i), room)
				out.WriteString(" ")
			}
		}
		out.WriteString("]")
	default:
		fmt.Fprintf(out, "%#v", v.Interface())
	}
}

// scribble writes over every list within a value, up to its capacity, those that lie deepest first.
func scribble(v reflect.Value) {
	switch v.Kind() {
	case reflect.Interface:
		if !v.IsNil() {
			scribble(v.Elem())
		}
	case reflect.Struct:
		for i := range v.NumField() {
			scribble(v.Field(i))
		}
	case reflect.Slice:
		v = v.Slice(0, v.Cap())
		for i := range v.Len() {
			scribble(v.Index(i))
			if v.Index(i).Kind() != reflect.Interface {
				overwrite(v.Index(i))
			}
		}
	}
}

// overwrite gives every number, truth value and text of one element of a list another value.
func overwrite(v reflect.Value) {
	switch v.Kind() {
	case reflect.Struct:
		for i := range v.NumField() {
			overwrite(v.Field(i))
		}
	case reflect.Slice:
		v.Set(reflect.Zero(v.Type()))
	case reflect.Bool:
		v.SetBool(!v.Bool())
	case reflect.String:
		v.SetString(v.String() + "x")
	case reflect.Int64:
		v.SetInt(v.Int() + 1)
	case reflect.Uint8:
		v.SetUint((v.Uint() + 1) % 256)
	}
}

func extents(v reflect.Value, into *[]extent) {
	switch v.Kind() {
	case reflect.Interface:
		extents(v.Elem(), into)
	case reflect.Struct:
		for i := range v.NumField() {
			extents(v.Field(i), into)
		}
	case reflect.Slice:
		if v.Cap() > 0 {
			size := uintptr(v.Cap()) * v.Type().Elem().Size()
			*into = append(*into, extent{v.Pointer(), v.Pointer() + size})
		}
		if v.Type().Elem().Kind() != reflect.Uint8 {
			for i := range v.Len() {
				extents(v.Index(i), into)
			}
		}
	}
}

// withRoom gives each list of the arguments room for three elements behind its end, with some numbers standing there.
func withRoom(args []any) []any {
	out := make([]any, len(args))
	for i, a := range args {
		v := reflect.New(reflect.TypeOf(a)).Elem()
		v.Set(reflect.ValueOf(a))
		makeRoom(v)
		out[i] = v.Interface()
	}
	return out
}

func makeRoom(v reflect.Value) {
	switch v.Kind() {
	case reflect.Struct:
		for i := range v.NumField() {
			makeRoom(v.Field(i))
		}
	case reflect.Slice:
		wide := reflect.MakeSlice(v.Type(), v.Len()+3, v.Len()+3)
		reflect.Copy(wide, v)
		for i := range v.Len() {
			makeRoom(wide.Index(i))
		}
		for i := v.Len(); i < wide.Len(); i++ {
			overwrite(wide.Index(i))
		}
		v.Set(wide.Slice(0, v.Len()))
	}
}

// The helpers themselves: promise 1 is only as good as they are.
func TestPureHelpersSeeSharing(t *testing.T) {
	list := []int64{1, 2, 3}
	var a, b []extent
	extents(reflect.ValueOf(list[:1]), &a)
	extents(reflect.ValueOf(list[2:]), &b)
	if !a[0].meets(b[0]) {
		t.Error("a list reaches into another by its capacity")
	}
	clipped := a[:0:0]
	extents(reflect.ValueOf(list[:1:1]), &clipped)
	if clipped[0].meets(b[0]) {
		t.Error("two pieces of one array that do not meet")
	}
	if value([]int64{}) != value([]int64(nil)) || value([]int64{0}) == value([]int64{}) || value([]byte{1, 2}) == value([]byte{1, 3}) {
		t.Error("value")
	}
	before := depth([]any{list[:1]})
	list[2] = 9
	if depth([]any{list[:1]}) == before {
		t.Error("depth sees what lies behind the end")
	}
	var any1 any = list[:1]
	scribble(reflect.ValueOf(&any1).Elem())
	if list[0] != 2 || list[2] != 10 {
		t.Error("scribble writes up to the capacity")
	}
}
