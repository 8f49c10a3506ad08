package blob_test

import (
	"bytes"
	"errors"
	"math"
	"slices"
	"strconv"
	"testing"

	"purlin/api"
	"purlin/blob"
)

// isFailure checks that an error is the failure with a number and an offset, and nothing that wraps one.
func isFailure(t *testing.T, err error, e api.Errno, at int) {
	t.Helper()
	if f, ok := err.(*api.Failure); !ok || f == nil || f.Err != e || f.At != at {
		t.Errorf("the failure is %v, not %d at %d", err, e, at)
	}
}

// isFine checks that a reader has not failed and is at an offset.
func isFine(t *testing.T, r *blob.Reader, at int) {
	t.Helper()
	if err := r.Err(); err != nil || r.At() != at {
		t.Errorf("the reader is at %d with %v, not at %d without a failure", r.At(), err, at)
	}
}

// hasFailed checks that a reader failed at an offset, and that it gives nothing and stays as it is whatever it is asked for.
func hasFailed(t *testing.T, r *blob.Reader, at int) {
	t.Helper()
	for range 2 {
		for _, n := range []int{math.MinInt, -1, 0, 1, 2, math.MaxInt} {
			if x := r.Eight(); x != 0 {
				t.Errorf("Eight = %d once it had failed", x)
			}
			if x := r.Sixteen(); x != 0 {
				t.Errorf("Sixteen = %d once it had failed", x)
			}
			if x := r.Text(n); x != "" {
				t.Errorf("Text(%d) = %q once it had failed", n, x)
			}
			if x := r.List(n); len(x) != 0 {
				t.Errorf("List(%d) = %v once it had failed", n, x)
			}
			if r.At() != at {
				t.Errorf("the offset is %d once it had failed at %d", r.At(), at)
			}
			isFailure(t, r.Err(), api.ErrBlobShort, at)
			isFailure(t, r.End(), api.ErrBlobShort, at)
		}
	}
}

// upTo is so many bytes that differ, so that it can be told which of them were read.
func upTo(n int) []byte {
	b := make([]byte, n)
	for i := range b {
		b[i] = byte(i + 1)
	}
	return b
}

// P2.1

func TestExample(t *testing.T) {
	r := blob.New([]byte{1, 2, 3, 4})
	isFine(t, r, 0)
	if x := r.Eight(); x != 1 {
		t.Errorf("Eight = %d", x)
	}
	isFine(t, r, 1)
	if x := r.Sixteen(); x != 515 {
		t.Errorf("Sixteen = %d", x)
	}
	isFine(t, r, 3)
	isFailure(t, r.End(), api.ErrBlobMore, 3)
	if x := r.Sixteen(); x != 0 {
		t.Errorf("Sixteen = %d of one byte", x)
	}
	isFailure(t, r.Err(), api.ErrBlobShort, 3)
	if x := r.Eight(); x != 0 {
		t.Errorf("Eight = %d once it had failed", x)
	}
	hasFailed(t, r, 3)
}

func TestEightIsEveryByte(t *testing.T) {
	b := make([]byte, 256)
	for i := range b {
		b[i] = byte(i)
	}
	r := blob.New(b)
	for i := range b {
		if x := r.Eight(); x != uint8(i) {
			t.Errorf("the byte %d is %d", i, x)
		}
		isFine(t, r, i+1)
	}
	if err := r.End(); err != nil {
		t.Errorf("End = %v", err)
	}
}

func TestSixteenIsBigEndian(t *testing.T) {
	for n := range 1 << 16 {
		r := blob.New([]byte{byte(n / 256), byte(n % 256)})
		if x := r.Sixteen(); int(x) != n {
			t.Errorf("Sixteen = %d, not %d", x, n)
		}
		if r.At() != 2 || r.Err() != nil || r.End() != nil {
			t.Errorf("behind the number %d: at %d, %v, %v", n, r.At(), r.Err(), r.End())
		}
	}
}

func TestTextAndList(t *testing.T) {
	all := upTo(40)
	for begin := range 41 {
		for n := range 41 - begin {
			r := blob.New(all)
			r.Text(begin)
			if x := r.Text(n); x != string(all[begin:begin+n]) {
				t.Errorf("Text(%d) at %d = %q", n, begin, x)
			}
			isFine(t, r, begin+n)
			r = blob.New(all)
			r.List(begin)
			if x := r.List(n); !slices.Equal(x, all[begin:begin+n]) {
				t.Errorf("List(%d) at %d = %v", n, begin, x)
			}
			isFine(t, r, begin+n)
		}
	}
}

// Text gives bytes, whether they are characters or not.
func TestTextOfAnyBytes(t *testing.T) {
	b := []byte{0, 0xff, 0xc3, 0xa4, 0x80, 'a', '\n', 0xed, 0xa0, 0x80, 0}
	r := blob.New(b)
	if x := r.Text(len(b)); x != string(b) || len(x) != len(b) {
		t.Errorf("Text = %q", x)
	}
}

// lessThanOne holds numbers that ask for no byte.
var lessThanOne = []int{0, -1, -2, -3, -256, math.MinInt32, math.MinInt + 1, math.MinInt}

func TestLessThanOneByte(t *testing.T) {
	for _, n := range lessThanOne {
		for begin := range 4 { // at the beginning, within, and at the end
			r := blob.New([]byte("abc"))
			r.Text(begin)
			if x := r.Text(n); x != "" {
				t.Errorf("Text(%d) = %q", n, x)
			}
			isFine(t, r, begin)
			if x := r.List(n); len(x) != 0 {
				t.Errorf("List(%d) = %v", n, x)
			}
			isFine(t, r, begin)
			if x := r.Text(3 - begin); x != "abc"[begin:] || r.End() != nil {
				t.Errorf("the rest is %q, %v", x, r.End())
			}
		}
	}
}

// asks holds what asks for more bytes than the n that are left.
func asks(n int) []func(r *blob.Reader) bool {
	l := []func(r *blob.Reader) bool{}
	for _, more := range []int{n + 1, n + 2, n + 256, math.MaxInt32, math.MaxInt - 1, math.MaxInt} {
		l = append(l, func(r *blob.Reader) bool { return r.Text(more) == "" })
		l = append(l, func(r *blob.Reader) bool { return len(r.List(more)) == 0 })
	}
	if n < 2 {
		l = append(l, func(r *blob.Reader) bool { return r.Sixteen() == 0 })
	}
	if n < 1 {
		l = append(l, func(r *blob.Reader) bool { return r.Eight() == 0 })
	}
	return l
}

func TestTooManyBytes(t *testing.T) {
	for size := range 6 {
		for at := range size + 1 {
			for i, nothing := range asks(size - at) {
				r := blob.New(upTo(size))
				r.List(at)
				isFine(t, r, at)
				if !nothing(r) {
					t.Errorf("of %d bytes, at %d: the read %d gave something", size, at, i)
				}
				hasFailed(t, r, at)
			}
		}
	}
}

// Exactly up to the end is not too many.
func TestUpToTheEnd(t *testing.T) {
	for size := range 6 {
		for at := range size + 1 {
			left := size - at
			reads := []func(r *blob.Reader) bool{
				func(r *blob.Reader) bool { return len(r.Text(left)) == left },
				func(r *blob.Reader) bool { return len(r.List(left)) == left },
			}
			if left == 1 {
				reads = append(reads, func(r *blob.Reader) bool { return int(r.Eight()) == size })
			}
			if left == 2 {
				reads = append(reads, func(r *blob.Reader) bool { return int(r.Sixteen()) == 256*(size-1)+size })
			}
			for i, whole := range reads {
				r := blob.New(upTo(size))
				r.Text(at)
				if !whole(r) {
					t.Errorf("of %d bytes, at %d: the read %d gave something else", size, at, i)
				}
				isFine(t, r, size)
				if err := r.End(); err != nil {
					t.Errorf("End = %v", err)
				}
			}
		}
	}
}

// The first byte of an incomplete number is not read, and cannot be read any more.
func TestIncompleteNumber(t *testing.T) {
	r := blob.New([]byte{7})
	if x := r.Sixteen(); x != 0 {
		t.Errorf("Sixteen = %d", x)
	}
	hasFailed(t, r, 0)
}

func TestNoBytes(t *testing.T) {
	for _, b := range [][]byte{nil, {}, make([]byte, 0, 8)} {
		r := blob.New(b)
		isFine(t, r, 0)
		if err := r.End(); err != nil {
			t.Errorf("End = %v", err)
		}
		if r.Text(0) != "" || len(r.List(0)) != 0 {
			t.Error("something was read of nothing")
		}
		isFine(t, r, 0)
		if x := r.Eight(); x != 0 {
			t.Errorf("Eight = %d", x)
		}
		hasFailed(t, r, 0)
	}
}

// The bytes behind those that are passed belong to the caller.
func TestReaderLeavesItsArgument(t *testing.T) {
	all := upTo(8)
	r := blob.New(all[:3])
	if x := r.List(3); !slices.Equal(x, []byte{1, 2, 3}) {
		t.Errorf("List = %v", x)
	}
	isFailure(t, readOne(r), api.ErrBlobShort, 3)
	if !slices.Equal(all, upTo(8)) {
		t.Errorf("the argument is %v now", all)
	}
}

func readOne(r *blob.Reader) error {
	r.Eight()
	return r.Err()
}

func TestReaderKeepsItsBytes(t *testing.T) {
	b := upTo(8)
	r := blob.New(b)
	clear(b)
	if r.Eight() != 1 || r.Sixteen() != 515 || r.Text(2) != "\x04\x05" || !slices.Equal(r.List(3), []byte{6, 7, 8}) {
		t.Error("the reader reads what the caller did to its bytes")
	}
}

func TestListIsNewEachTime(t *testing.T) {
	b := upTo(6)
	r := blob.New(b)
	first := r.List(3)
	clear(first)
	_ = append(first, 99, 99, 99)
	if !slices.Equal(b, upTo(6)) {
		t.Errorf("the argument is %v once a result was changed", b)
	}
	second := r.List(3)
	if !slices.Equal(second, []byte{4, 5, 6}) {
		t.Errorf("List = %v once an earlier result was changed", second)
	}
	if clear(second); !slices.Equal(first, []byte{0, 0, 0}) {
		t.Errorf("two results share memory: %v", first)
	}
}

// Readers of the same bytes are at different places.
func TestReadersApart(t *testing.T) {
	b := upTo(3)
	r, s := blob.New(b), blob.New(b)
	r.List(4)
	if x := s.Text(2); x != "\x01\x02" {
		t.Errorf("Text = %q", x)
	}
	hasFailed(t, r, 0)
	isFine(t, s, 2)
}

// P2.2

func TestEndWithBytesLeft(t *testing.T) {
	for size := 1; size < 6; size++ {
		for at := range size {
			r := blob.New(upTo(size))
			r.Text(at)
			for range 2 {
				isFailure(t, r.End(), api.ErrBlobMore, at)
				isFine(t, r, at)
			}
			// It is not recorded: all that is left can still be read.
			if x := r.Text(size - at); x != string(upTo(size)[at:]) {
				t.Errorf("Text = %q behind End", x)
			}
			isFine(t, r, size)
			if err := r.End(); err != nil {
				t.Errorf("End = %v", err)
			}
		}
	}
}

// A failure is recorded even if bytes are left, and comes ahead of them.
func TestEndOfAFailedReader(t *testing.T) {
	r := blob.New(upTo(5))
	r.Sixteen()
	isFailure(t, r.End(), api.ErrBlobMore, 2)
	r.List(4)
	isFailure(t, r.End(), api.ErrBlobShort, 2)
	hasFailed(t, r, 2)
}

func TestNoFailureIsNil(t *testing.T) {
	r := blob.New(upTo(2))
	if err := r.Err(); err != nil {
		t.Errorf("Err = %v", err)
	}
	if r.Sixteen(); r.Err() != nil || r.End() != nil {
		t.Errorf("Err = %v, End = %v", r.Err(), r.End())
	}
	// Asking how it went is no read.
	if r.At() != 2 {
		t.Errorf("At = %d", r.At())
	}
}

func TestFailuresWrapTheirNumbers(t *testing.T) {
	r := blob.New(upTo(1))
	more := r.End()
	r.Sixteen()
	for _, x := range []struct {
		err error
		e   api.Errno
	}{{more, api.ErrBlobMore}, {r.Err(), api.ErrBlobShort}, {r.End(), api.ErrBlobShort}} {
		if !errors.Is(x.err, x.e) || errors.Is(x.err, api.ErrBlobMore+api.ErrBlobShort-x.e) {
			t.Errorf("%v does not wrap %d alone", x.err, x.e)
		}
	}
}

// What a caller does to a failure that it got does not change the one that is recorded.
func TestFailuresAreNewEachTime(t *testing.T) {
	r := blob.New(upTo(3))
	r.Sixteen()
	*r.End().(*api.Failure) = api.Failure{At: 9, Err: 99}
	isFailure(t, r.End(), api.ErrBlobMore, 2)
	r.Sixteen()
	*r.Err().(*api.Failure) = api.Failure{At: 9, Err: 99}
	*r.End().(*api.Failure) = api.Failure{At: 9, Err: 99}
	hasFailed(t, r, 2)
}

// P2.3

func TestTwo(t *testing.T) {
	for _, x := range []struct {
		b    []byte
		n    uint16
		want []byte
	}{
		{nil, 515, []byte{2, 3}}, {[]byte{}, 515, []byte{2, 3}}, {nil, 0, []byte{0, 0}},
		{nil, 255, []byte{0, 255}}, {nil, 256, []byte{1, 0}}, {nil, 65535, []byte{255, 255}}, {nil, 0xff01, []byte{255, 1}},
		{[]byte{9}, 515, []byte{9, 2, 3}}, {[]byte{9, 8, 7}, 0x8000, []byte{9, 8, 7, 0x80, 0}},
	} {
		if got := blob.Two(x.b, x.n); !slices.Equal(got, x.want) {
			t.Errorf("Two(%v, %d) = %v, not %v", x.b, x.n, got, x.want)
		}
	}
}

func TestTwoAndSixteen(t *testing.T) {
	var b []byte
	for n := range 1 << 9 {
		b = blob.Two(b, uint16(n*n))
	}
	r := blob.New(b)
	for n := range 1 << 9 {
		if x := r.Sixteen(); x != uint16(n*n) {
			t.Errorf("the number %d is %d", n, x)
		}
	}
	if err := r.End(); err != nil {
		t.Errorf("End = %v", err)
	}
}

func TestTwoIsNewEachTime(t *testing.T) {
	all := upTo(8)
	for _, b := range [][]byte{all[:3], all[:3:3], all[:3:4], all[:3:5], all[:0], all} {
		got, other := blob.Two(b, 0xfffe), blob.Two(b, 0xfdfc)
		if want := append(bytes.Clone(b), 0xff, 0xfe); !slices.Equal(got, want) || !slices.Equal(all, upTo(8)) {
			t.Errorf("Two(%v) = %v, and the argument's memory is %v", b, got, all)
		}
		want := bytes.Clone(other)
		if clear(got); !slices.Equal(all, upTo(8)) || !slices.Equal(other, want) {
			t.Errorf("a result was changed: the argument's memory is %v, and the other result %v", all, other)
		}
	}
}

// wrap is an error around another one.
type wrap struct{ err error }

func (w wrap) Error() string { return "around: " + w.err.Error() }
func (w wrap) Unwrap() error { return w.err }

// plain is an error that wraps nothing; it has fields that are not to be mistaken for those of a failure.
type plain struct{ At, Err int }

func (p plain) Error() string { return strconv.Itoa(p.Err) }

// list is an error that cannot be compared by ==.
type list []error

func (l list) Error() string   { return strconv.Itoa(len(l)) }
func (l list) Unwrap() []error { return l }

// often wraps an error in so many others.
func often(n int, err error) error {
	for range n {
		err = wrap{err}
	}
	return err
}

func isWhy(t *testing.T, err error, e api.Errno, at int) {
	t.Helper()
	if f, to := blob.Why(err); f != e || to != at {
		t.Errorf("Why(%v) = %d, %d, not %d, %d", err, f, to, e, at)
	}
}

// wrappings holds an error by itself and within others, once and several times.
func wrappings(err error) []error {
	other := errors.New("other")
	return []error{
		err, wrap{err}, &wrap{err}, often(2, err), often(3, err), often(1000, err),
		errors.Join(err), errors.Join(err, other), errors.Join(other, err), errors.Join(other, nil, wrap{other}, err),
		wrap{errors.Join(other, wrap{err})}, errors.Join(errors.Join(other), errors.Join(errors.Join(other, often(2, err)))),
		list{err}, list{other, wrap{list{other, err}}}, wrap{list{list{}, plain{4, 44}, err}},
	}
}

func TestWhyOfAFailure(t *testing.T) {
	for _, f := range []api.Failure{{At: 7, Err: 33}, {At: 0, Err: api.ErrBlobShort}, {At: 12, Err: api.ErrBlobMore}, {At: math.MaxInt, Err: 999}, {At: -1, Err: -1}, {At: 5, Err: api.OK}} {
		for _, err := range wrappings(&f) {
			isWhy(t, err, f.Err, f.At)
			if !blob.Is(err, f.Err) || blob.Is(err, f.Err+1) || blob.Is(err, f.Err-1) || blob.Is(err, api.Errno(f.At)) && f.Err != api.Errno(f.At) {
				t.Errorf("Is of %v", err)
			}
		}
	}
}

func TestWhyOfANumber(t *testing.T) {
	for _, e := range []api.Errno{api.ErrCountCore, api.ErrBlobShort, api.ErrScriptNone, 1, -1, 999, math.MaxInt, math.MinInt, api.OK} {
		for _, err := range wrappings(e) {
			isWhy(t, err, e, 0)
			if !blob.Is(err, e) || blob.Is(err, e^1) || blob.Is(err, ^e) {
				t.Errorf("Is of %v", err)
			}
		}
	}
}

func TestWhyOfOtherErrors(t *testing.T) {
	for _, other := range []error{errors.New("other"), errors.New(api.ErrBlobShort.Error()), plain{}, plain{7, 33}, &plain{7, 33}, list{}, list{nil, nil}, wrap{plain{7, 33}}} {
		for _, err := range wrappings(other) {
			isWhy(t, err, api.OK, 0)
			for _, e := range []api.Errno{api.OK, 7, 20, 33} {
				if blob.Is(err, e) {
					t.Errorf("Is(%v, %d)", err, e)
				}
			}
		}
	}
}

func TestNil(t *testing.T) {
	isWhy(t, nil, api.OK, 0)
	for e := range api.Errno(300) {
		if blob.Is(nil, e) {
			t.Errorf("Is(nil, %d)", e)
		}
	}
}

// A failure goes ahead of a bare number, wherever both are; of two failures, or of two numbers, the first one counts.
func TestWhyOfSeveral(t *testing.T) {
	f, g := &api.Failure{At: 7, Err: 33}, &api.Failure{At: 8, Err: 34}
	isWhy(t, errors.Join(api.Errno(12), f), 33, 7)
	isWhy(t, errors.Join(f, api.Errno(12)), 33, 7)
	isWhy(t, wrap{errors.Join(api.Errno(12), errors.New("other"), often(3, f))}, 33, 7)
	isWhy(t, errors.Join(f, g), 33, 7)
	isWhy(t, errors.Join(g, f), 34, 8)
	isWhy(t, errors.Join(api.Errno(12), api.Errno(13)), 12, 0)
	for _, e := range []api.Errno{12, 33, 34} {
		if !blob.Is(errors.Join(api.Errno(12), wrap{f}, g), e) {
			t.Errorf("Is %d", e)
		}
	}
}

func TestWhyOfAReader(t *testing.T) {
	r := blob.New(upTo(3))
	r.Eight()
	isWhy(t, r.Err(), api.OK, 0)
	isWhy(t, r.End(), api.ErrBlobMore, 1)
	isWhy(t, wrap{r.End()}, api.ErrBlobMore, 1)
	r.Text(3)
	isWhy(t, r.Err(), api.ErrBlobShort, 1)
	isWhy(t, r.End(), api.ErrBlobShort, 1)
	if !blob.Is(wrap{r.Err()}, api.ErrBlobShort) || blob.Is(r.Err(), api.ErrBlobMore) {
		t.Error("Is")
	}
}

func TestErrorsAreLeft(t *testing.T) {
	f := &api.Failure{At: 7, Err: 33}
	blob.Why(wrap{f})
	blob.Is(wrap{f}, 34)
	if *f != (api.Failure{At: 7, Err: 33}) {
		t.Errorf("the failure is %v now", f)
	}
}

// P1: no call panics, whatever it is given.

// rude is an error whose methods panic.
type rude struct{}

func (rude) Error() string { panic("Error") }
func (rude) Unwrap() error { panic("Unwrap") }
func (rude) Is(error) bool { panic("Is") }
func (rude) As(any) bool   { panic("As") }

// liar is an error that says that it is one of a kind, and does not give it; or gives it, and says that it is none.
type liar struct{ says bool }

func (l liar) Error() string { return "liar" }
func (l liar) As(target any) bool {
	if e, ok := target.(*api.Errno); ok && !l.says {
		*e = 33
	}
	return l.says
}

func TestErrorsThatPanic(t *testing.T) {
	for _, err := range []error{(*api.Failure)(nil), (*wrap)(nil), wrap{}, &wrap{}, rude{}, &rude{}, (*rude)(nil), wrap{rude{}}, list{rude{}}, wrap{(*api.Failure)(nil)}, errors.Join((*api.Failure)(nil)), liar{true}, liar{false}} {
		if e, at := blob.Why(err); e != api.OK || at != 0 {
			t.Errorf("Why = %d, %d", e, at)
		}
		for _, e := range []api.Errno{api.OK, 20, 33} {
			if blob.Is(err, e) {
				t.Errorf("Is %d", e)
			}
		}
	}
	// What comes ahead of it is still found.
	isWhy(t, wrap{list{&api.Failure{At: 7, Err: 33}, plain{}}}, 33, 7)
	if e, at := blob.Why(list{&api.Failure{At: 7, Err: 33}, rude{}}); e != 33 || at != 7 {
		t.Errorf("Why = %d, %d", e, at)
	}
	if !blob.Is(list{api.Errno(33), rude{}}, 33) {
		t.Error("Is 33")
	}
}

func TestManyLevels(t *testing.T) {
	err := error(&api.Failure{At: 7, Err: 33})
	for range 1 << 15 {
		err = wrap{list{err}}
	}
	if e, at := blob.Why(err); e != 33 || at != 7 || !blob.Is(err, 33) || blob.Is(err, 34) {
		t.Errorf("Why = %d, %d", e, at)
	}
}

// P2.4

// piece is a read of so many bytes: it gives what it has read.
type piece struct {
	name string
	size int
	read func(r *blob.Reader) []byte
}

// pieces holds all reads of at most n bytes, and of at least one.
func pieces(n int) []piece {
	l := []piece{
		{"Eight ", 1, func(r *blob.Reader) []byte { return []byte{r.Eight()} }},
		{"Sixteen ", 2, func(r *blob.Reader) []byte { return blob.Two(nil, r.Sixteen()) }},
	}
	for size := 1; size <= n; size++ {
		l = append(l, piece{"Text ", size, func(r *blob.Reader) []byte { return []byte(r.Text(0) + r.Text(size)) }})
		l = append(l, piece{"List ", size, func(r *blob.Reader) []byte { return slices.Concat(r.List(size), r.List(-1)) }})
	}
	return slices.DeleteFunc(l, func(p piece) bool { return p.size > n })
}

// divisions holds every way of dividing n bytes into reads.
func divisions(n int) [][]piece {
	if n == 0 {
		return [][]piece{nil}
	}
	var all [][]piece
	for _, first := range pieces(n) {
		for _, rest := range divisions(n - first.size) {
			all = append(all, slices.Concat([]piece{first}, rest))
		}
	}
	return all
}

func TestHoweverDivided(t *testing.T) {
	b := []byte{0xff, 0, 7, 0x80, 0xc3}
	all := divisions(len(b))
	if len(all) < 100 {
		t.Errorf("only %d ways of dividing the bytes", len(all))
	}
	for _, division := range all {
		r, names := blob.New(b), ""
		var got []byte
		for _, p := range division {
			got = append(got, p.read(r)...)
			names += p.name
			isFine(t, r, len(got))
		}
		if !slices.Equal(got, b) || r.End() != nil {
			t.Errorf("%s: %v, %v", names, got, r.End())
		}
	}
}
