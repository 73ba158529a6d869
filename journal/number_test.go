package journal

import (
	"math"
	"testing"
)

// kinds of integers that are not of the language itself.
type (
	small int8
	great uint64
)

// number checks that n is written as want, behind what stands there, and read again.
func number[N integer](t *testing.T, n N, want string) {
	t.Helper()
	if got := string(appendNumber([]byte("ahead"), n)); got != "ahead"+want {
		t.Errorf("the %T %d is written as %q, want %q", n, n, got, "ahead"+want)
	}
	c := cursor{rest: []byte(want + "behind")}
	if got := takeNumber[N](&c); got != n || string(c.rest) != "behind" || c.short {
		t.Errorf("%q is read as the %T %d, want %d, and leaves %q", want, n, got, n, c.rest)
	}
}

func TestNumbersOfAllTypes(t *testing.T) {
	number(t, int8(0), "\x00")
	number(t, int8(math.MaxInt8), "\x7f")
	number(t, int8(-1), "\xff")
	number(t, int8(math.MinInt8), "\x80")
	number(t, small(-2), "\xfe")
	number(t, uint8(math.MaxUint8), "\xff")
	number(t, byte(1), "\x01")
	number(t, int16(0x1234), "\x12\x34")
	number(t, int16(-2), "\xff\xfe")
	number(t, int16(math.MinInt16), "\x80\x00")
	number(t, uint16(0xfedc), "\xfe\xdc")
	number(t, int32(0x12345678), "\x12\x34\x56\x78")
	number(t, int32(math.MinInt32), "\x80\x00\x00\x00")
	number(t, uint32(0xfedcba98), "\xfe\xdc\xba\x98")
	number(t, int64(0x123456789abcdef0), "\x12\x34\x56\x78\x9a\xbc\xde\xf0")
	number(t, int64(-3), "\xff\xff\xff\xff\xff\xff\xff\xfd")
	number(t, int64(math.MinInt64), "\x80\x00\x00\x00\x00\x00\x00\x00")
	number(t, uint64(math.MaxUint64), "\xff\xff\xff\xff\xff\xff\xff\xff")
	number(t, great(1000000), "\x00\x00\x00\x00\x00\x0f\x42\x40")
}

func TestNumbersOfTheMachinesSize(t *testing.T) {
	want := "\x00\x00\x00\x00\x12\x34\x56\x78"
	if math.MaxInt == math.MaxInt32 {
		want = want[4:]
	}
	number(t, int(0x12345678), want)
	number(t, uint(0x12345678), want)
	number(t, uintptr(0x12345678), want)
}

func TestNumberOfTooFewBytes(t *testing.T) {
	c := cursor{rest: []byte("\x01\x02\x03")}
	if n := takeNumber[uint32](&c); n != 0 || !c.short {
		t.Errorf("three bytes are read as a number of four: %d", n)
	}
}
