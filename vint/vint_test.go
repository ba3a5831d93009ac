package vint

import (
	"bytes"
	"math"
	"testing"

	"murmur/api"
)

const top = api.Top

// numbers are those that may be written: ordinary ones, and each at which a byte more is needed, with its neighbours.
func numbers() []int {
	l := []int{0, 1, 2, 5, 42, 300, 1000, 123456789, top / 3, top - 2, top - 1, top}
	for s := 7; s < 40; s += 7 {
		l = append(l, 1<<s-2, 1<<s-1, 1<<s, 1<<s+1)
	}
	return l
}

// wrong are numbers that may not be written.
func wrong() []int {
	return []int{-1, -2, -128, -top, math.MinInt, math.MinInt + 1, top + 1, top + 2, 1 << 41, 1 << 42, 1<<42 - 1, 1 << 62, math.MaxInt - 1, math.MaxInt}
}

// sizeOf is how many bytes a number needs, by the document's words.
func sizeOf(n int) int {
	size := 1
	for limit := 128; n >= limit; limit *= 128 {
		size++
	}
	return size
}

// roomy is bytes with spare room behind them, filled with a byte that is easy to tell.
func roomy(text string) []byte {
	b := append([]byte(text), bytes.Repeat([]byte{0xee}, 16)...)
	return b[:len(text)]
}

// untouched: the bytes and all of their spare room are as roomy left them.
func untouched(b []byte, text string) bool {
	return string(b[:cap(b)][:len(text)+16]) == text+string(bytes.Repeat([]byte{0xee}, 16))
}

// scribble writes over an answer and its spare room.
func scribble(b []byte) {
	b = b[:cap(b)]
	for i := range b {
		b[i] = 0xdd
	}
}

// P2.1: Put, by cases written out.
func TestPut(t *testing.T) {
	for _, x := range []struct {
		b    string
		n    int
		want string
	}{
		{"", 0, "\x00"}, {"", 1, "\x01"}, {"", 127, "\x7f"}, {"", 128, "\x80\x01"}, {"", 129, "\x81\x01"}, {"", 300, "\xac\x02"},
		{"", 1<<14 - 1, "\xff\x7f"}, {"", 1 << 14, "\x80\x80\x01"}, {"", 1<<21 - 1, "\xff\xff\x7f"}, {"", 1 << 21, "\x80\x80\x80\x01"},
		{"", 1<<28 - 1, "\xff\xff\xff\x7f"}, {"", 1 << 28, "\x80\x80\x80\x80\x01"}, {"", 1<<35 - 1, "\xff\xff\xff\xff\x7f"}, {"", 1 << 35, "\x80\x80\x80\x80\x80\x01"},
		{"", top - 1, "\xff\xff\xff\xff\xff\x1f"}, {"", top, "\x80\x80\x80\x80\x80\x20"},
		{"abc", 0, "abc\x00"}, {"abc", 300, "abc\xac\x02"}, {"\x80", 5, "\x80\x05"}, {"\x00", top, "\x00\x80\x80\x80\x80\x80\x20"},
	} {
		if got, e := Put([]byte(x.b), x.n); string(got) != x.want || e != api.OK {
			t.Errorf("Put(%x, %d) = %x, %d, want %x, OK", x.b, x.n, got, e, x.want)
		}
	}
	if got, e := Put(nil, 7); string(got) != "\x07" || e != api.OK {
		t.Errorf("Put(nil, 7) = %x, %d", got, e)
	}
}

// P2.1: what Put refuses, with no bytes beside the error.
func TestPutRefuses(t *testing.T) {
	for _, n := range wrong() {
		for _, b := range [][]byte{nil, {}, []byte("abc")} {
			if got, e := Put(b, n); len(got) != 0 || e != api.ErrArg {
				t.Errorf("Put(%x, %d) = %x, %d, want none, ErrArg", b, n, got, e)
			}
		}
	}
}

// P2.1: seven bits a byte, the lowest first, each but the last with 128 more, and as few as can be.
func TestPutForm(t *testing.T) {
	for _, n := range numbers() {
		got, e := Put([]byte("ahead"), n)
		if e != api.OK || !bytes.HasPrefix(got, []byte("ahead")) {
			t.Fatalf("Put(ahead, %d) = %x, %d", n, got, e)
		}
		got = got[5:]
		if len(got) != sizeOf(n) {
			t.Errorf("%d has %d bytes, want %d", n, len(got), sizeOf(n))
		}
		sum, weight := 0, 1
		for i, c := range got {
			if (c >= 128) != (i < len(got)-1) {
				t.Errorf("%d: byte %d of %x", n, i, got)
			}
			sum += int(c%128) * weight
			weight *= 128
		}
		if sum != n {
			t.Errorf("%d is written %x, which is %d", n, got, sum)
		}
	}
}

// P2.1: b is not changed, nor its spare room; an answer is new memory.
func TestPutTouchesNothing(t *testing.T) {
	for _, n := range append(numbers(), wrong()...) {
		b := roomy("ab")
		got, _ := Put(b, n)
		if !untouched(b, "ab") {
			t.Errorf("Put of %d wrote into what it was given", n)
		}
		scribble(got)
		if !untouched(b, "ab") {
			t.Errorf("Put of %d answers memory that it was given", n)
		}
	}
	b := roomy("ab")
	first, _ := Put(b, 1)
	second, _ := Put(b, 2)
	if string(first) != "ab\x01" || string(second) != "ab\x02" {
		t.Errorf("two answers share memory: %x, %x", first, second)
	}
}

// P2.2: Int, by cases written out: numbers, bytes that end too early, and bytes that may not be so.
func TestInt(t *testing.T) {
	for _, x := range []struct {
		b    string
		want int
		e    api.Errno
		left int
	}{
		{"\x00", 0, api.OK, 0}, {"\x01", 1, api.OK, 0}, {"\x7f", 127, api.OK, 0}, {"\x80\x01", 128, api.OK, 0}, {"\xac\x02\x07", 300, api.OK, 1},
		{"\x05\x80", 5, api.OK, 1}, {"\x00\x00\x00", 0, api.OK, 2}, {"\xff\x7f", 1<<14 - 1, api.OK, 0}, {"\x80\x80\x01", 1 << 14, api.OK, 0},
		{"\xff\xff\xff\xff\x7f", 1<<35 - 1, api.OK, 0}, {"\x80\x80\x80\x80\x80\x01", 1 << 35, api.OK, 0}, {"\x81\x80\x80\x80\x80\x01\xff", 1<<35 + 1, api.OK, 1},
		{"\xff\xff\xff\xff\xff\x1f", top - 1, api.OK, 0}, {"\x80\x80\x80\x80\x80\x20", top, api.OK, 0}, {"\x80\x80\x80\x80\x80\x20\x00", top, api.OK, 1},

		{"", 0, api.ErrShort, 0}, {"\x80", 0, api.ErrShort, 1}, {"\xff", 0, api.ErrShort, 1}, {"\x80\x80", 0, api.ErrShort, 2},
		{"\x80\x80\x80\x80\x80", 0, api.ErrShort, 5}, {"\xff\xff\xff\xff\xff", 0, api.ErrShort, 5},

		{"\x80\x00", 0, api.ErrForm, 2}, {"\xff\x00", 0, api.ErrForm, 2}, {"\x80\x00\x07", 0, api.ErrForm, 3}, {"\x80\x80\x00", 0, api.ErrForm, 3}, {"\xff\xff\x00", 0, api.ErrForm, 3},
		{"\x80\x80\x80\x80\x80\x00", 0, api.ErrForm, 6}, {"\xff\xff\xff\xff\xff\x00", 0, api.ErrForm, 6},

		{"\x81\x80\x80\x80\x80\x20", 0, api.ErrForm, 6}, {"\x80\x80\x80\x80\x80\x21", 0, api.ErrForm, 6}, {"\x80\x80\x80\x80\x80\x40", 0, api.ErrForm, 6}, {"\xff\xff\xff\xff\xff\x7f", 0, api.ErrForm, 6},

		{"\x80\x80\x80\x80\x80\x80", 0, api.ErrForm, 6}, {"\xff\xff\xff\xff\xff\xff", 0, api.ErrForm, 6}, {"\x80\x80\x80\x80\x80\x80\x00", 0, api.ErrForm, 7},
		{"\x80\x80\x80\x80\x80\x80\x01", 0, api.ErrForm, 7}, {"\x80\x80\x80\x80\x80\xa0\x00", 0, api.ErrForm, 7}, {"\xff\xff\xff\xff\xff\xff\xff\xff\xff\x01", 0, api.ErrForm, 10},
	} {
		r := New([]byte(x.b))
		if r.Err() != api.OK || r.Left() != len(x.b) {
			t.Errorf("New(%x): Err %d, Left %d", x.b, r.Err(), r.Left())
		}
		if got := r.Int(); got != x.want || r.Err() != x.e || r.Left() != x.left {
			t.Errorf("Int of %x = %d, Err %d, Left %d, want %d, %d, %d", x.b, got, r.Err(), r.Left(), x.want, x.e, x.left)
		}
	}
}

// P2.2: Bytes, and what it refuses.
func TestBytes(t *testing.T) {
	for _, x := range []struct {
		b    string
		n    int
		want string
		e    api.Errno
		left int
	}{
		{"abcde", 0, "", api.OK, 5}, {"abcde", 2, "ab", api.OK, 3}, {"abcde", 5, "abcde", api.OK, 0}, {"", 0, "", api.OK, 0}, {"\x80\x00", 2, "\x80\x00", api.OK, 0},
		{"abcde", 6, "", api.ErrShort, 5}, {"", 1, "", api.ErrShort, 0}, {"abcde", top, "", api.ErrShort, 5}, {"abcde", math.MaxInt, "", api.ErrShort, 5},
		{"abcde", -1, "", api.ErrArg, 5}, {"", -1, "", api.ErrArg, 0}, {"abcde", -5, "", api.ErrArg, 5}, {"abcde", math.MinInt, "", api.ErrArg, 5},
	} {
		r := New([]byte(x.b))
		if got := r.Bytes(x.n); string(got) != x.want || r.Err() != x.e || r.Left() != x.left {
			t.Errorf("Bytes(%d) of %x = %x, Err %d, Left %d, want %x, %d, %d", x.n, x.b, got, r.Err(), r.Left(), x.want, x.e, x.left)
		}
	}
}

// P2.2: numbers and bytes one behind the other, each from where the one ahead ended.
func TestOneBehindTheOther(t *testing.T) {
	r := New([]byte("\xac\x02ab\x00\x80\x80\x80\x80\x80\x20c\x80"))
	if n := r.Int(); n != 300 || r.Left() != 11 {
		t.Errorf("first: %d, Left %d", n, r.Left())
	}
	if b := r.Bytes(2); string(b) != "ab" || r.Left() != 9 {
		t.Errorf("second: %x, Left %d", b, r.Left())
	}
	if n := r.Int(); n != 0 || r.Left() != 8 || r.Err() != api.OK {
		t.Errorf("third: %d, Left %d, Err %d", n, r.Left(), r.Err())
	}
	if n := r.Int(); n != top || r.Left() != 2 {
		t.Errorf("fourth: %d, Left %d", n, r.Left())
	}
	if b := r.Bytes(1); string(b) != "c" || r.Left() != 1 || r.Err() != api.OK {
		t.Errorf("fifth: %x, Left %d, Err %d", b, r.Left(), r.Err())
	}
	if n := r.Int(); n != 0 || r.Left() != 1 || r.Err() != api.ErrShort {
		t.Errorf("sixth: %d, Left %d, Err %d", n, r.Left(), r.Err())
	}
}

// P2.2: Fail takes any error but OK, and an OK leaves the reader going.
func TestFail(t *testing.T) {
	for _, e := range []api.Errno{api.ErrNil, api.ErrArg, api.ErrShort, api.ErrForm, api.ErrSum, api.ErrLeft, -1, 99, math.MaxInt, math.MinInt} {
		r := New([]byte("\x05\x06"))
		r.Fail(api.OK)
		if n := r.Int(); n != 5 || r.Err() != api.OK || r.Left() != 1 {
			t.Errorf("behind Fail(OK): %d, Err %d, Left %d", n, r.Err(), r.Left())
		}
		r.Fail(e)
		if r.Err() != e || r.Left() != 1 {
			t.Errorf("behind Fail(%d): Err %d, Left %d", e, r.Err(), r.Left())
		}
		stuck(t, r, e, 1)
	}
}

// stuck asks all of a reader that failed: it answers 0 and none, passes nothing, and fails no other way.
func stuck(t *testing.T, r *Reader, e api.Errno, left int) {
	t.Helper()
	for i, call := range []func() bool{
		func() bool { return r.Int() == 0 },
		func() bool { return len(r.Bytes(0)) == 0 },
		func() bool { return len(r.Bytes(1)) == 0 },
		func() bool { return len(r.Bytes(-1)) == 0 },
		func() bool { return len(r.Bytes(math.MaxInt)) == 0 },
		func() bool { r.Fail(api.OK); return true },
		func() bool { r.Fail(api.ErrLong); return true },
		func() bool { return r.Int() == 0 },
	} {
		if !call() || r.Err() != e || r.Left() != left {
			t.Errorf("call %d of a reader that failed by %d: Err %d, Left %d, want Left %d", i, e, r.Err(), r.Left(), left)
		}
	}
}

// P2.2: however a reader failed, it stays so.
func TestFailedStays(t *testing.T) {
	for _, x := range []struct {
		b    string
		fail func(r *Reader)
		e    api.Errno
		left int
	}{
		{"\x80", func(r *Reader) { r.Int() }, api.ErrShort, 1},
		{"\x80\x00\x05", func(r *Reader) { r.Int() }, api.ErrForm, 3},
		{"\x07\x80\x80\x80\x80\x80\x80\x05", func(r *Reader) { r.Int(); r.Int() }, api.ErrForm, 7},
		{"\x05\x06", func(r *Reader) { r.Bytes(3) }, api.ErrShort, 2},
		{"\x05\x06", func(r *Reader) { r.Bytes(1); r.Bytes(-1) }, api.ErrArg, 1},
		{"\x05\x06", func(r *Reader) { r.Fail(api.ErrNil) }, api.ErrNil, 2},
		{"", func(r *Reader) { r.Int() }, api.ErrShort, 0},
	} {
		r := New([]byte(x.b))
		x.fail(r)
		if r.Err() != x.e || r.Left() != x.left {
			t.Errorf("%x: Err %d, Left %d, want %d, %d", x.b, r.Err(), r.Left(), x.e, x.left)
		}
		stuck(t, r, x.e, x.left)
	}
}

// P2.2: of a nil Reader each answer is zero, of Err ErrNil, whatever was called of it.
func TestNilReader(t *testing.T) {
	var r *Reader
	stuck(t, r, api.ErrNil, 0)
}

// P2.2: a reader of nothing, made by New or not, goes on till something is asked of it.
func TestReaderOfNothing(t *testing.T) {
	for i, r := range []*Reader{New(nil), New([]byte{}), {}} {
		if r.Err() != api.OK || r.Left() != 0 || len(r.Bytes(0)) != 0 || r.Err() != api.OK {
			t.Errorf("%d: Err %d, Left %d", i, r.Err(), r.Left())
		}
		if n := r.Int(); n != 0 || r.Err() != api.ErrShort {
			t.Errorf("%d: Int %d, Err %d", i, n, r.Err())
		}
	}
}

// P2.2: a reader goes through a copy, changes nothing that it was given, and hands out new memory.
func TestReaderKeepsItsOwn(t *testing.T) {
	b := roomy("ab\x05cd")
	r, other := New(b), New(b)
	got := r.Bytes(2)
	if !untouched(b, "ab\x05cd") {
		t.Error("a reader wrote into what it was given")
	}
	scribble(got)
	if !untouched(b, "ab\x05cd") || r.Int() != 5 {
		t.Error("an answer of Bytes shares memory")
	}
	last := r.Bytes(2)
	scribble(b)
	if string(last) != "cd" {
		t.Errorf("an answer of Bytes is changed with what the reader was given: %x", last)
	}
	if string(other.Bytes(2)) != "ab" || other.Int() != 5 || string(other.Bytes(2)) != "cd" || other.Err() != api.OK {
		t.Error("a reader is changed with what it was given, or with another one")
	}
}

// P2.3: what was put is read, whatever stands behind it.
func TestPutIsRead(t *testing.T) {
	for _, n := range numbers() {
		put, _ := Put(nil, n)
		for _, behind := range []string{"", "\x00", "\x01", "\x7f", "\x80", "\xff", "\x80\x00", "\xff\xff\xff\xff\xff\xff\xff"} {
			r := New(append(bytes.Clone(put), behind...))
			if got := r.Int(); got != n || r.Err() != api.OK || r.Left() != len(behind) {
				t.Errorf("%d with %x behind it is read as %d, Err %d, Left %d", n, behind, got, r.Err(), r.Left())
			}
			if rest := r.Bytes(len(behind)); string(rest) != behind || r.Err() != api.OK {
				t.Errorf("behind %d: %x, Err %d, want %x", n, rest, r.Err(), behind)
			}
		}
		for cut := range len(put) {
			if r := New(put[:cut]); r.Int() != 0 || r.Err() != api.ErrShort || r.Left() != cut {
				t.Errorf("%d cut to %d bytes: Err %d, Left %d", n, cut, r.Err(), r.Left())
			}
		}
	}
}

// P2.3: all numbers of a list are read one behind the other.
func TestAllArePutAndRead(t *testing.T) {
	var b []byte
	for _, n := range numbers() {
		b, _ = Put(b, n)
	}
	r := New(b)
	for _, n := range numbers() {
		if got := r.Int(); got != n {
			t.Fatalf("%d is read as %d, Err %d", n, got, r.Err())
		}
	}
	if r.Err() != api.OK || r.Left() != 0 {
		t.Errorf("Err %d, Left %d", r.Err(), r.Left())
	}
}

// texts are all of up to seven bytes from a few that matter.
func texts(f func(b []byte)) {
	few := []byte{0x00, 0x01, 0x20, 0x21, 0x7f, 0x80, 0xff}
	var grow func(b []byte)
	grow = func(b []byte) {
		f(b)
		if len(b) == 7 {
			return
		}
		for _, c := range few {
			grow(append(b[:len(b):len(b)], c))
		}
	}
	grow(nil)
}

// told is what the document says of the number at the front of bytes.
func told(b []byte) (n, size int, e api.Errno) {
	end := 0
	for end < len(b) && end < 6 && b[end] >= 128 {
		end++
	}
	if end == 6 {
		return 0, 0, api.ErrForm
	}
	if end == len(b) {
		return 0, 0, api.ErrShort
	}
	for i := end; i >= 0; i-- {
		n = n*128 + int(b[i]%128)
	}
	if n > top || sizeOf(n) < end+1 {
		return 0, 0, api.ErrForm
	}
	return n, end + 1, api.OK
}

// P2.2, P2.3: any bytes are read as the document says, and what is read is put back as it was.
func TestReadIsPutBack(t *testing.T) {
	texts(func(b []byte) {
		n, size, e := told(b)
		r := New(b)
		if got := r.Int(); got != n || r.Err() != e || r.Left() != len(b)-size {
			t.Fatalf("Int of %x = %d, Err %d, Left %d, want %d, %d, %d", b, got, r.Err(), r.Left(), n, e, len(b)-size)
		}
		if e != api.OK {
			return
		}
		if back, e := Put(nil, n); e != api.OK || !bytes.Equal(back, b[:size]) {
			t.Fatalf("%x is read as %d, and put back as %x, %d", b[:size], n, back, e)
		}
	})
}
