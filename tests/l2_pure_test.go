package tests

import (
	"math"
	"sync"
	"testing"

	"loop.example/s01525/impl"
)

var pureSums = []int64{math.MinInt64, -1, 0, 1, 3808858755, 4294967295, 4294967296, math.MaxInt64}

func TestPureNumbers(t *testing.T) {
	for _, n := range []int64{math.MinInt64, -1, 0, 1, 2, 4, 7, 8, 9, math.MaxInt64} {
		for _, v := range []int64{math.MinInt64, -1, 0, 255, 256, 65536, math.MaxInt64} {
			checkPure(t, pureCase{"PutNumber", impl.PutNumber, func() []any { return []any{v, n} }})
		}
	}
	for _, n := range []int{0, 1, 2, 7, 8, 9, 70} {
		for _, first := range []byte{0, 127, 128, 255} {
			checkPure(t, pureCase{"GetNumber", impl.GetNumber, func() []any {
				b := drawn(n, 1)
				if n > 0 {
					b[0] = first
				}
				return []any{b}
			}})
		}
	}
}

func TestPureSums(t *testing.T) {
	for _, n := range []int{0, 1, 2, 63, 64, 65, 3000} {
		checkPure(t, pureCase{"Crc", impl.Crc, func() []any { return []any{drawn(n, 2)} }})
		for _, crc := range pureSums {
			checkPure(t, pureCase{"CrcOn", impl.CrcOn, func() []any { return []any{crc, drawn(n, 3)} }})
		}
	}
	checkPure(t, pureCase{"Crc of nil", impl.Crc, func() []any { return []any{[]byte(nil)} }})
	checkPure(t, pureCase{"CrcOn of nil", impl.CrcOn, func() []any { return []any{int64(5), []byte(nil)} }})
}

// Two answers of PutNumber are two lists.
func TestPureNumbersApart(t *testing.T) {
	one, two := impl.PutNumber(258, 4), impl.PutNumber(258, 4)
	one[3] = 77
	if value(two) != value([]byte{0, 0, 1, 2}) || value(impl.PutNumber(258, 4)) != value([]byte{0, 0, 1, 2}) {
		t.Error("two answers share memory")
	}
}

// mixedCalls makes all four functions answer, wrong arguments among them, and tells all of it.
func mixedCalls(seed int64) string {
	var told []any
	for i := range int64(12) {
		data := drawn(int(i*seed%100), seed+i)
		told = append(told, impl.Crc(data), impl.PutNumber(seed*i*1000003, i), impl.GetNumber(data), impl.GetNumber(data[:min(len(data), 8)]))
		for _, crc := range pureSums {
			told = append(told, impl.CrcOn(crc, data))
		}
	}
	return value(told)
}

// What a call answers does not hang on what was called before it.
func TestPureWhateverWasCalledBefore(t *testing.T) {
	first := mixedCalls(3)
	for seed := range int64(20) {
		mixedCalls(seed)
		if mixedCalls(3) != first {
			t.Fatal("behind other calls the same calls answer otherwise, seed", seed)
		}
	}
	if impl.Crc([]byte("123456789")) != 3808858755 {
		t.Error("the sum of 123456789 is another behind other calls")
	}
}

// Nor on what is called beside it.
func TestPureSumsAtOnce(t *testing.T) {
	want := mixedCalls(5)
	var got [8]string
	var all sync.WaitGroup
	for i := range got {
		all.Add(1)
		go func() {
			defer all.Done()
			got[i] = mixedCalls(5)
		}()
	}
	all.Wait()
	for i, g := range got {
		if g != want {
			t.Error("calls at once answer otherwise:", i)
		}
	}
}
