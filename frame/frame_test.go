package frame

import (
	"bytes"
	"encoding/binary"
	"hash/crc32"
	"slices"
	"strings"
	"testing"

	"murmur/api"
)

// known are frames written out: of nothing, of one byte, of ordinary bodies, at a length's second byte, and of the longest body.
func known() []struct{ body, frame string } {
	return []struct{ body, frame string }{
		{"", "\x01\x00" + "\x58\xc2\x23\xbe"},
		{"\x00", "\x01\x01\x00" + "\xe7\x98\x82\x64"},
		{"\xff", "\x01\x01\xff" + "\xca\x9a\x6d\xe9"},
		{"hi", "\x01\x02hi" + "\x03\x36\x54\x44"},
		{"\x01\x00\x80", "\x01\x03\x01\x00\x80" + "\x05\x8d\x98\x54"},
		{"123456789", "\x01\x09123456789" + "\x7b\xe1\x68\x6e"},
		{strings.Repeat("a", 127), "\x01\x7f" + strings.Repeat("a", 127) + "\xb5\x8d\x34\xbd"},
		{strings.Repeat("a", 128), "\x01\x80\x01" + strings.Repeat("a", 128) + "\x60\x19\x6f\xb2"},
		{strings.Repeat("\x00", 4096), "\x01\x80\x20" + strings.Repeat("\x00", 4096) + "\xcf\x9c\x62\x65"},
	}
}

// rising is n bytes, no two neighbours alike, of all values.
func rising(n int) []byte {
	b := make([]byte, n)
	for i := range b {
		b[i] = byte(i*7 + i/256)
	}
	return b
}

// seal is a text with its sum behind it, right whatever the text is.
func seal(ahead string) string {
	return string(binary.BigEndian.AppendUint32([]byte(ahead), crc32.ChecksumIEEE([]byte(ahead))))
}

// framed is a body's frame by the document's words.
func framed(body string) string {
	ahead := "\x01"
	n := len(body)
	for ; n >= 128; n /= 128 {
		ahead += string([]byte{byte(n%128 + 128)})
	}
	return seal(ahead + string([]byte{byte(n)}) + body)
}

// bodies are such of many lengths, those of a frame and of what begins as one among them.
func bodies() []string {
	l := []string{framed(""), framed("hi") + framed("ho"), framed("hi")[:5], "\x01", "\x01\x80", "\x02\x00"}
	for _, n := range []int{0, 1, 2, 3, 4, 5, 6, 7, 20, 126, 127, 128, 129, 255, 256, 257, 1000, 4095, 4096} {
		l = append(l, string(rising(n)))
	}
	return l
}

// tails are what may stand behind a frame.
func tails() []string {
	return []string{"", "\x00", "\x01", "\xff", "\x01\x00", "\x00\x00\x00\x00", "anything at all", framed(""), framed("hi"), framed("hi")[:7], "\x02" + framed("hi"), string(rising(5000))}
}

// roomy is bytes with spare room behind them, filled with a byte that is easy to tell.
func roomy(text string) []byte {
	b := append([]byte(text), bytes.Repeat([]byte{0xee}, 16)...)
	return b[:len(text)]
}

// untouched: the bytes and all of their spare room are as roomy left them.
func untouched(b []byte, text string) bool {
	return string(b[:cap(b)][:len(text)+16]) == text+string(bytes.Repeat([]byte{0xee}, 16))
}

// scribble writes over an answer and its spare room.
func scribble(b []byte) {
	b = b[:cap(b)]
	for i := range b {
		b[i] = 0xdd
	}
}

// none: Get of the bytes answers the error, and nothing beside it; All tells no frame of them.
func none(t *testing.T, b string, want api.Errno) {
	t.Helper()
	if body, rest, e := Get([]byte(b)); e != want || len(body) != 0 || len(rest) != 0 {
		t.Errorf("Get(%.40x) = %.40x, %.40x, %d, want none, none, %d", b, body, rest, e, want)
	}
	if l, n := All([]byte(b)); len(l) != 0 || n != 0 {
		t.Errorf("All(%.40x) = %d bodies, %d, want none, 0", b, len(l), n)
	}
}

// P4.1: Put, by frames written out; the document's example among them.
func TestPut(t *testing.T) {
	for _, x := range known() {
		if got, e := Put([]byte(x.body)); string(got) != x.frame || e != api.OK {
			t.Errorf("Put(%.40x) = %.40x, %d, want %.40x, OK", x.body, got, e, x.frame)
		}
	}
	for _, nothing := range [][]byte{nil, {}, make([]byte, 0, 8)} {
		if got, e := Put(nothing); string(got) != "\x01\x00\x58\xc2\x23\xbe" || e != api.OK {
			t.Errorf("Put of nothing = %x, %d", got, e)
		}
	}
}

// P4.1: Put, by the document's words, of each length up to the longest.
func TestPutOfEachLength(t *testing.T) {
	for n := range api.MaxBody + 1 {
		body := rising(n)
		if got, e := Put(body); string(got) != framed(string(body)) || e != api.OK {
			t.Fatalf("Put of %d bytes = %.40x, %d", n, got, e)
		}
	}
}

// P4.1: more than MaxBody bytes are too long, with nothing beside the error.
func TestPutTooLong(t *testing.T) {
	for _, n := range []int{4097, 4098, 8192, 16384, 1 << 20} {
		if got, e := Put(rising(n)); len(got) != 0 || e != api.ErrLong {
			t.Errorf("Put of %d bytes = %d bytes, %d, want none, ErrLong", n, len(got), e)
		}
	}
}

// P4.2: Get, by frames written out.
func TestGet(t *testing.T) {
	for _, x := range known() {
		for _, behind := range tails() {
			body, rest, e := Get([]byte(x.frame + behind))
			if string(body) != x.body || string(rest) != behind || e != api.OK {
				t.Errorf("Get(%.40x) = %.40x, %.40x, %d, want %.40x, %.40x, OK", x.frame+behind, body, rest, e, x.body, behind)
			}
		}
	}
}

// P4.2: each error of Get, at its edges.
func TestGetErrors(t *testing.T) {
	hi := framed("hi")
	for _, x := range []struct {
		b string
		e api.Errno
	}{
		{"", api.ErrShort},

		{"\x00", api.ErrForm}, {"\x02", api.ErrForm}, {"\x81", api.ErrForm}, {"\xff", api.ErrForm}, {seal("\x00\x02hi"), api.ErrForm}, {seal("\x02\x00"), api.ErrForm}, {"x" + hi, api.ErrForm},

		{"\x01", api.ErrShort}, {"\x01\x80", api.ErrShort}, {"\x01\xff", api.ErrShort}, {"\x01\x80\x80\x80\x80\x80", api.ErrShort}, {"\x01\xff\xff\xff\xff\xff", api.ErrShort},
		{"\x01\x80\x00", api.ErrForm}, {"\x01\x82\x00", api.ErrForm}, {seal("\x01\x80\x00"), api.ErrForm}, {seal("\x01\x82\x00hi"), api.ErrForm}, {"\x01\xff\xff\x00", api.ErrForm},
		{"\x01\x80\x80\x80\x80\x80\x21", api.ErrForm}, {"\x01\x81\x80\x80\x80\x80\x20", api.ErrForm}, {"\x01\xff\xff\xff\xff\xff\x7f", api.ErrForm}, {"\x01\x80\x80\x80\x80\x80\x80", api.ErrForm}, {"\x01\xff\xff\xff\xff\xff\xff\xff\xff\xff\x01", api.ErrForm},

		{"\x01\x81\x20", api.ErrLong}, {"\x01\xff\x7f", api.ErrLong}, {"\x01\x80\x80\x01", api.ErrLong}, {"\x01\x80\x80\x80\x80\x80\x20", api.ErrLong}, {"\x01\xff\xff\xff\xff\xff\x1f", api.ErrLong},
		{seal("\x01\x81\x20" + string(rising(4097))), api.ErrLong}, {"\x01\x81\x20" + string(rising(6000)), api.ErrLong},

		{"\x01\x00", api.ErrShort}, {"\x01\x00\x58\xc2\x23", api.ErrShort}, {"\x01\x02", api.ErrShort}, {"\x01\x02hi", api.ErrShort}, {hi[:7], api.ErrShort}, {"\x01\x80\x20", api.ErrShort},
		{"\x01\x80\x20" + string(rising(4096)), api.ErrShort}, {"\x01\x80\x20" + string(rising(4099)), api.ErrShort}, {"\x01\x02hixyz", api.ErrShort},

		{"\x01\x00\x00\x00\x00\x00", api.ErrSum}, {"\x01\x00\xbe\x23\xc2\x58", api.ErrSum}, {"\x01\x00\xa7\x3d\xdc\x41", api.ErrSum}, {"\x01\x02hj" + hi[4:], api.ErrSum}, {hi[:7] + "x", api.ErrSum},
		{"\x01\x02hi" + framed("")[2:] + hi, api.ErrSum}, {"\x01\x80\x20" + string(rising(4100)), api.ErrSum}, {"\x01\x80\x20" + string(rising(9000)), api.ErrSum},
	} {
		none(t, x.b, x.e)
	}
	none(t, framed("ordinary")[:5], api.ErrShort)
}

// P4.2: where several errors hold, the first one is told.
func TestGetFirstError(t *testing.T) {
	for _, x := range []struct {
		b string
		e api.Errno
	}{
		{"\x02\x80", api.ErrForm},                               // no version, and the length ends early
		{"\x00\x81\x20", api.ErrForm},                           // no version, and too long
		{"\x02\x02h", api.ErrForm},                              // no version, and too few
		{"\x02\x00\x00\x00\x00\x00", api.ErrForm},               // no version, and another sum
		{"\x01\x81\xa0\x00", api.ErrForm},                       // a length that needs fewer bytes, and too long, and too few
		{"\x01\x82\x00", api.ErrForm},                           // a length that needs fewer bytes, and too few
		{"\x01\x80\x80\x80\x80\x80\x21", api.ErrForm},           // a length above Top, and too long
		{"\x01\x81\xa0", api.ErrShort},                          // the length ends early, though it is too long already
		{"\x01\x81\x20abc", api.ErrLong},                        // too long, and too few
		{"\x01\x81\x20" + string(rising(4101)), api.ErrLong},    // too long, and another sum
		{"\x01\x80\x20\x00\x00\x00\x00", api.ErrShort},          // too few; what is there is no sum
		{"\x01\x80\x20" + string(rising(4099)), api.ErrShort},   // too few by one
		{"\x01\x03\x00\x00\x00\x00\x00\x00", api.ErrShort},      // too few by one, as its length tells
		{"\x01\x02\x00\x00\x00\x00\x00\x00", api.ErrSum},        // just enough
		{"\x01\x80\x80\x80\x80\x80\x80\x00" + "x", api.ErrForm}, // a seventh byte of the length
	} {
		none(t, x.b, x.e)
	}
}

// told is what the document says of the frame that bytes begin with: its head's and its body's sizes.
func told(b []byte) (head, length int, e api.Errno) {
	if len(b) == 0 {
		return 0, 0, api.ErrShort
	}
	if b[0] != 1 {
		return 0, 0, api.ErrForm
	}
	end := 1
	for end < len(b) && end < 7 && b[end] >= 128 {
		end++
	}
	if end == 7 {
		return 0, 0, api.ErrForm
	}
	if end == len(b) {
		return 0, 0, api.ErrShort
	}
	for i := end; i > 0; i-- {
		length = length*128 + int(b[i]%128)
	}
	if length > api.Top || end > 1 && b[end] == 0 {
		return 0, 0, api.ErrForm
	}
	if length > 4096 {
		return 0, 0, api.ErrLong
	}
	if len(b)-end-1 < length+4 {
		return 0, 0, api.ErrShort
	}
	if ahead := b[:end+1+length]; crc32.ChecksumIEEE(ahead) != binary.BigEndian.Uint32(b[len(ahead):]) {
		return 0, 0, api.ErrSum
	}
	return end + 1, length, api.OK
}

// texts are all of up to seven bytes from a few that matter, alone and with their sums and more behind them.
func texts(f func(b []byte)) {
	few := []byte{0x00, 0x01, 0x02, 0x20, 0x80, 0xff}
	var grow func(b []byte)
	grow = func(b []byte) {
		f(b)
		f([]byte(seal(string(b))))
		f([]byte(seal(string(b)) + "\x01\x00\x58\xc2\x23\xbe"))
		if len(b) == 7 {
			return
		}
		for _, c := range few {
			grow(append(b[:len(b):len(b)], c))
		}
	}
	grow(nil)
}

// P4.2: of any bytes Get and All tell what the document says.
func TestAsTold(t *testing.T) {
	frames := 0
	texts(func(b []byte) {
		head, length, e := told(b)
		body, rest, got := Get(b)
		if got != e {
			t.Fatalf("Get(%x): %d, want %d", b, got, e)
		}
		if e != api.OK {
			if len(body) != 0 || len(rest) != 0 {
				t.Fatalf("Get(%x) = %x, %x beside %d", b, body, rest, e)
			}
		} else if frames++; !bytes.Equal(body, b[head:head+length]) || !bytes.Equal(rest, b[head+length+4:]) {
			t.Fatalf("Get(%x) = %x, %x", b, body, rest)
		}
		allAsTold(t, b)
	})
	// Bodies of none, one and two of the few bytes, each with nothing and with a frame behind.
	if want := 2 * (1 + 6 + 36); frames != want {
		t.Errorf("%d frames were told, want %d", frames, want)
	}
}

// allAsTold holds All against Get's words, one frame behind the other.
func allAsTold(t *testing.T, b []byte) {
	t.Helper()
	var want [][]byte
	size := 0
	for {
		head, length, e := told(b[size:])
		if e != api.OK {
			break
		}
		want = append(want, b[size+head:size+head+length])
		size += head + length + 4
	}
	if got, n := All(b); n != size || !slices.EqualFunc(got, want, bytes.Equal) {
		t.Fatalf("All(%.60x) = %.60x, %d, want %.60x, %d", b, got, n, want, size)
	}
}

// P4.2: All of no bytes, of one frame, of some, and of what is none at the front.
func TestAll(t *testing.T) {
	none(t, "", api.ErrShort)
	if l, n := All(nil); len(l) != 0 || n != 0 {
		t.Errorf("All(nil) = %x, %d", l, n)
	}
	for _, x := range []struct {
		b    string
		want []string
		n    int
	}{
		{framed(""), []string{""}, 6},
		{framed("hi"), []string{"hi"}, 8},
		{framed("hi") + framed(""), []string{"hi", ""}, 14},
		{framed("") + framed("hi") + framed("hi")[:7], []string{"", "hi"}, 14},
		{framed("") + framed("") + framed("") + "\x00", []string{"", "", ""}, 18},
		{framed("hi") + "\x02" + framed("ho"), []string{"hi"}, 8},
		{framed("hi") + "\x01\x02hj\x03\x36\x54\x44" + framed("ho"), []string{"hi"}, 8},
		{framed("hi") + seal("\x01\x81\x20"+string(rising(4097))) + framed("ho"), []string{"hi"}, 8},
		{"x" + framed("hi"), nil, 0},
		{framed(framed("hi") + framed("ho")), []string{framed("hi") + framed("ho")}, 22},
	} {
		l, n := All([]byte(x.b))
		if n != x.n || !slices.EqualFunc(l, x.want, func(b []byte, s string) bool { return string(b) == s }) {
			t.Errorf("All(%.40x) = %.40x, %d, want %.40x, %d", x.b, l, n, x.want, x.n)
		}
	}
}

// P4.2: All of very many frames ends soon, though much stands behind each.
func TestAllOfMany(t *testing.T) {
	const many = 100000
	l, n := All([]byte(strings.Repeat(framed("hi"), many) + "\x01"))
	if len(l) != many || n != many*8 || string(l[0]) != "hi" || string(l[many-1]) != "hi" {
		t.Errorf("All = %d bodies, %d", len(l), n)
	}
}

// P4.3: what is put is got, whatever stands behind.
func TestPutIsGot(t *testing.T) {
	for _, text := range bodies() {
		put, e := Put([]byte(text))
		if e != api.OK {
			t.Fatalf("Put of %d bytes: %d", len(text), e)
		}
		for _, behind := range tails() {
			body, rest, e := Get(append(bytes.Clone(put), behind...))
			if string(body) != text || string(rest) != behind || e != api.OK {
				t.Errorf("%.40x with %.40x behind it: %.40x, %.40x, %d", text, behind, body, rest, e)
			}
			allAsTold(t, append(bytes.Clone(put), behind...))
		}
	}
}

// P4.3: a frame cut anywhere is none.
func TestCut(t *testing.T) {
	for _, text := range bodies() {
		put, _ := Put([]byte(text))
		for cut := range len(put) {
			if body, rest, e := Get(put[:cut:cut]); e != api.ErrShort || len(body) != 0 || len(rest) != 0 {
				t.Fatalf("a frame of %d bytes, cut to %d: %.40x, %.40x, %d", len(put), cut, body, rest, e)
			}
			// What was cut off may still stand in the spare room: it is no part of the bytes.
			if l, n := All(put[:cut]); len(l) != 0 || n != 0 {
				t.Fatalf("a frame of %d bytes, cut to %d: All = %.40x, %d", len(put), cut, l, n)
			}
		}
	}
}

// P4.3: one byte turned, to whatever other value, at each place but of the length, makes a frame none, whatever stands behind.
func TestOneByteTurned(t *testing.T) {
	for _, text := range []string{"", "\x00", "\xff", "hi", "123456789", string(rising(127)), string(rising(128)), string(rising(200))} {
		put, _ := Put([]byte(text))
		start := len(put) - 4 - len(text)
		for _, behind := range []string{"", framed("hi")} {
			for place := range put {
				if place > 0 && place < start {
					continue
				}
				want := api.ErrSum
				if place == 0 {
					want = api.ErrForm
				}
				for by := 1; by < 256; by++ {
					turned := append(bytes.Clone(put), behind...)
					turned[place] ^= byte(by)
					none(t, string(turned), want)
				}
			}
		}
	}
}

// P4.3: in the longest frame too.
func TestOneByteTurnedOfTheLongest(t *testing.T) {
	put, _ := Put(rising(api.MaxBody))
	for place := range put {
		if place == 1 || place == 2 {
			continue
		}
		for _, by := range []byte{0x01, 0x80, 0xff} {
			put[place] ^= by
			if body, rest, e := Get(put); e == api.OK || len(body) != 0 || len(rest) != 0 {
				t.Errorf("byte %d turned by %x: %d", place, by, e)
			}
			put[place] ^= by
		}
	}
}

// P4.3: frames one behind the other are all got, up to one that is torn at whatever place.
func TestUpToTorn(t *testing.T) {
	var whole []byte
	var texts []string
	var ends []int
	for _, text := range bodies() {
		// Long ones would take long to be cut everywhere.
		if len(text) > 300 {
			continue
		}
		put, _ := Put([]byte(text))
		whole = append(whole, put...)
		texts = append(texts, text)
		ends = append(ends, len(whole))
	}
	for cut := range len(whole) + 1 {
		full, size := 0, 0
		for full < len(ends) && ends[full] <= cut {
			size = ends[full]
			full++
		}
		l, n := All(whole[:cut])
		if n != size || !slices.EqualFunc(l, texts[:full], func(b []byte, s string) bool { return string(b) == s }) {
			t.Fatalf("cut to %d: %d bodies, %d, want %d, %d", cut, len(l), n, full, size)
		}
	}
}

// P4.3: what Get leaves is got by the next Get, frame by frame, as All tells it.
func TestGetGoesOn(t *testing.T) {
	var whole []byte
	for _, text := range bodies() {
		whole = append(whole, framed(text)...)
	}
	rest := append(bytes.Clone(whole), "\x01\x02h"...)
	for _, text := range bodies() {
		var body []byte
		var e api.Errno
		if body, rest, e = Get(rest); string(body) != text || e != api.OK {
			t.Fatalf("Get = %.40x, %d, want %.40x", body, e, text)
		}
	}
	none(t, string(rest), api.ErrShort)
}

// Rule 4: what is handed in is not changed, its spare room neither, and no answer shares memory with it.
func TestTouchesNothing(t *testing.T) {
	for _, text := range []string{"", "hi", string(rising(128))} {
		body := roomy(text)
		put, _ := Put(body)
		if !untouched(body, text) {
			t.Error("Put wrote into what it was given")
		}
		scribble(put)
		if !untouched(body, text) {
			t.Error("Put answers memory that it was given")
		}
		for _, behind := range []string{"", "tail", framed("ho")} {
			b := roomy(framed(text) + behind)
			got, rest, _ := Get(b)
			l, _ := All(b)
			if !untouched(b, framed(text)+behind) {
				t.Error("what was given to Get or All was changed")
			}
			kept := bytes.Clone(b)
			for _, answer := range append(l, got, rest) {
				scribble(answer)
			}
			if !untouched(b, string(kept)) {
				t.Error("Get or All answers memory that it was given")
			}
		}
	}
	long := roomy(string(rising(4097)))
	if Put(long); !untouched(long, string(rising(4097))) {
		t.Error("Put wrote into what it refused")
	}
}

// Rule 4: no two lists of one answer share memory, their spare room included.
func TestAnswersAreApart(t *testing.T) {
	body, rest, _ := Get([]byte(framed("hi") + "tail"))
	scribble(body)
	if string(rest) != "tail" {
		t.Errorf("the rest is changed with the body: %x", rest)
	}
	body, rest, _ = Get([]byte(framed("hi") + "tail"))
	scribble(rest)
	if string(body) != "hi" {
		t.Errorf("the body is changed with the rest: %x", body)
	}
	want := []string{"one", "", "two", "three", "", "four"}
	whole := ""
	for _, text := range want {
		whole += framed(text)
	}
	for i := range want {
		l, _ := All([]byte(whole))
		scribble(l[i])
		for k, text := range want {
			if k != i && string(l[k]) != text {
				t.Errorf("body %d is changed with body %d: %x", k, i, l[k])
			}
		}
	}
}

// Rule 5: what is answered hangs on the bytes alone, and on no call ahead.
func TestSameAgain(t *testing.T) {
	first, _ := Put([]byte("hi"))
	kept := bytes.Clone(first)
	Get([]byte("\x01\x02hj" + framed("hi")[4:]))
	second, _ := Put([]byte("ho"))
	if !bytes.Equal(first, kept) {
		t.Error("an answer is changed by a call behind it")
	}
	scribble(second)
	if third, e := Put([]byte("ho")); string(third) != framed("ho") || e != api.OK {
		t.Errorf("Put(ho) = %x, %d", third, e)
	}
}
