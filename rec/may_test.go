package rec

import (
	"math"
	"testing"

	"bobbin/api"
)

// odd are numbers at the edges of the ranges, most of which some width does not allow.
var odd = []int{math.MinInt, math.MinInt + 1, -1 << 32, -65536, -256, -255, -2, -1, 1, 2, 254, 255, 256, 257, 511, 512, 65534, 65535, 65536, 65537, 131071, 1<<24 - 1, 1 << 24, 1<<31 - 1, 1 << 31, 1<<32 - 2, 1<<32 - 1, 1 << 32, 1<<32 + 1, 1 << 33, 1 << 40, 1 << 62, math.MaxInt - 1, math.MaxInt}

// P6.1: the kinds of the table are valid, and no others.
func TestKinds(t *testing.T) {
	for kind := -1000; kind <= 1000; kind++ {
		if got, want := May(api.Rec{Kind: kind}), kind >= 1 && kind <= 11; got != want {
			t.Errorf("the kind %d: May returned %t", kind, got)
		}
	}
	for _, kind := range odd {
		if kind < 1 || kind > 11 {
			wantNotValid(t, "another kind", api.Rec{Kind: kind})
			for _, s := range shapes {
				r := s.most()
				r.Kind = kind
				wantNotValid(t, "another kind with fields", r)
			}
		}
	}
	wantNotValid(t, "the zero value", api.Rec{})
	wantNotValid(t, "one more than the last kind", api.Rec{Kind: api.Recs})
	if len(shapes) != api.Recs-1 {
		t.Errorf("%d kinds are tested, want %d", len(shapes), api.Recs-1)
	}
}

// P6.1: a record is valid with the least, the greatest and other numbers and values.
func TestSamplesAreValid(t *testing.T) {
	for _, r := range samples() {
		wantValid(t, "a sample", r)
	}
}

// P6.1: each number of a kind is in the range that its width allows, whatever the other fields are.
func TestRangesOfNumbers(t *testing.T) {
	for _, s := range shapes {
		for _, f := range s.list() {
			if f.width == 0 {
				continue
			}
			for _, r := range []api.Rec{s.zero(), s.mixed(), s.most()} {
				*number(&r, f.name) = 0
				wantValid(t, f.name, r)
				for _, n := range odd {
					*number(&r, f.name) = n
					if n >= 0 && n <= greatest(f.width) {
						wantValid(t, f.name, r)
					} else {
						wantNotValid(t, f.name, r)
					}
				}
			}
		}
	}
}

// P6.1: every number of one and of two bytes is valid.
func TestEverySmallNumber(t *testing.T) {
	for n := range 65536 {
		if !May(api.Rec{Kind: api.RecClr, Key: n}) || !May(api.Rec{Kind: api.RecUpdate, Key: n}) {
			t.Errorf("the key %d is not valid", n)
		}
		if got, want := May(api.Rec{Kind: api.RecEnd, Tx: n}), n < 256; got != want {
			t.Errorf("the transaction %d: May returned %t", n, got)
		}
	}
}

// P6.1: numbers that a kind does not have are zero.
func TestOtherNumbersAreZero(t *testing.T) {
	for _, s := range shapes {
		for _, name := range numberNames {
			if _, has := s.width(name); has {
				continue
			}
			for _, r := range []api.Rec{s.zero(), s.mixed(), s.most()} {
				for _, n := range odd {
					*number(&r, name) = n
					wantNotValid(t, "with "+name, r)
				}
			}
		}
	}
}

// P6.1: a value of a kind has at most 32 bytes, and none if Is is false, whatever the other fields are.
func TestLengthsOfValues(t *testing.T) {
	for _, s := range shapes {
		for _, name := range valueNames {
			if _, has := s.width(name); !has {
				continue
			}
			for _, r := range []api.Rec{s.zero(), s.mixed(), s.most()} {
				v := value(&r, name)
				for n := range 33 {
					*v = api.Val{Is: true, B: long(n)}
					wantValid(t, name, r)
				}
				*v = api.Val{Is: true}
				wantValid(t, name+" that is empty and nil", r)
				*v = api.Val{B: []byte{}}
				wantValid(t, name+" that is none and not nil", r)
				for _, n := range []int{33, 34, 64, 254, 255, 256, 257, 288, 289, 70000} {
					*v = api.Val{Is: true, B: long(n)}
					wantNotValid(t, "a long "+name, r)
				}
				for _, n := range []int{1, 2, 31, 32, 33, 255, 256, 300} {
					*v = api.Val{B: make([]byte, n)}
					wantNotValid(t, name+" that is none and has bytes", r)
				}
			}
		}
	}
}

// P6.1: values that a kind does not have are none, and have no bytes.
func TestOtherValuesAreNone(t *testing.T) {
	for _, s := range shapes {
		for _, name := range valueNames {
			if _, has := s.width(name); has {
				continue
			}
			for _, r := range []api.Rec{s.zero(), s.mixed(), s.most()} {
				v := value(&r, name)
				*v = api.Val{B: []byte{}}
				wantValid(t, "no "+name+", which is not nil", r)
				for _, other := range []api.Val{{Is: true}, text(""), text("a"), {B: []byte{0}}, {B: long(32)}, {B: long(33)}, {Is: true, B: long(32)}, {Is: true, B: long(33)}} {
					*v = other
					wantNotValid(t, "with "+name, r)
				}
			}
		}
	}
}

// P6.1: a record of one kind is not valid as another one, unless both have its fields.
func TestFieldsOfAnotherKind(t *testing.T) {
	for _, from := range shapes {
		for _, to := range shapes {
			r := from.most()
			r.Kind = to.kind
			if mayBe(r) {
				wantValid(t, "the same fields", r)
			} else {
				wantNotValid(t, "other fields", r)
			}
		}
	}
}

// R3 and R5: May modifies nothing that it is given, and keeps nothing.
func TestMayModifiesNothing(t *testing.T) {
	for _, r := range samples() {
		was := cloned(r)
		for range 2 {
			if !May(r) || !same(r, was) {
				t.Errorf("%v is now %v", was, r)
			}
			May(api.Rec{Kind: r.Kind, Tx: 256, Page: -1, At: -1})
		}
	}
}
