package rec

import (
	"bytes"
	"math"
	"strconv"
	"strings"
	"testing"

	"bobbin/api"
)

// shape is a kind with its fields, as the chapter's table writes them.
type shape struct {
	kind   int
	fields string
}

var shapes = []shape{
	{api.RecUpdate, "Tx 1, Prev 4, Page 1, Key 2, Old, New"},
	{api.RecClr, "Tx 1, Next 4, Page 1, Key 2, New"},
	{api.RecCommit, "Tx 1"},
	{api.RecAbort, "Tx 1"},
	{api.RecEnd, "Tx 1"},
	{api.RecMap, "Page 1, Seg 1, Slot 1, At 4"},
	{api.RecPlace, "Page 1, Seg 1, Slot 1, At 4"},
	{api.RecBegin, ""},
	{api.RecTx, "Tx 1, State 1, Prev 4, Next 4"},
	{api.RecDirty, "Page 1, At 4"},
	{api.RecDone, "At 4"},
}

// numberNames and valueNames are all fields that records can have.
var (
	numberNames = []string{"Tx", "State", "Page", "Key", "Seg", "Slot", "Prev", "Next", "At"}
	valueNames  = []string{"Old", "New"}
)

// field is a field's name and its width, which is 0 for a value.
type field struct {
	name  string
	width int
}

// list returns the fields of the kind, in order.
func (s shape) list() []field {
	var l []field
	for part := range strings.SplitSeq(s.fields, ", ") {
		if part == "" {
			continue
		}
		name, digits, _ := strings.Cut(part, " ")
		width, _ := strconv.Atoi(digits)
		l = append(l, field{name, width})
	}
	return l
}

// width returns the width of a field, and whether the kind has it.
func (s shape) width(name string) (int, bool) {
	for _, f := range s.list() {
		if f.name == name {
			return f.width, true
		}
	}
	return 0, false
}

// shapeOf returns the shape of a kind, and whether there is such a kind.
func shapeOf(kind int) (shape, bool) {
	for _, s := range shapes {
		if s.kind == kind {
			return s, true
		}
	}
	return shape{}, false
}

func number(r *api.Rec, name string) *int {
	return map[string]*int{"Tx": &r.Tx, "State": &r.State, "Page": &r.Page, "Key": &r.Key, "Seg": &r.Seg, "Slot": &r.Slot, "Prev": &r.Prev, "Next": &r.Next, "At": &r.At}[name]
}

func value(r *api.Rec, name string) *api.Val {
	return map[string]*api.Val{"Old": &r.Old, "New": &r.New}[name]
}

// greatest returns the greatest number of so many bytes.
func greatest(width int) int {
	return map[int]int{1: 255, 2: 65535, 4: 4294967295}[width]
}

// text returns a value with these bytes.
func text(s string) api.Val {
	return api.Val{Is: true, B: []byte(s)}
}

// long returns n bytes, of which neighbours differ.
func long(n int) []byte {
	b := make([]byte, n)
	for i := range b {
		b[i] = byte(i*7 + 1)
	}
	return b
}

// zero returns a record of the kind whose fields are all zero.
func (s shape) zero() api.Rec {
	return api.Rec{Kind: s.kind}
}

// most returns the record of the kind whose numbers are the greatest and whose values are the longest.
func (s shape) most() api.Rec {
	r := s.zero()
	for _, f := range s.list() {
		if f.width == 0 {
			*value(&r, f.name) = api.Val{Is: true, B: long(32)}
		} else {
			*number(&r, f.name) = greatest(f.width)
		}
	}
	return r
}

// mixed returns a record of the kind in which no two bytes next to each other are equal.
func (s shape) mixed() api.Rec {
	r := s.zero()
	for i, f := range s.list() {
		if f.width == 0 {
			*value(&r, f.name) = api.Val{Is: true, B: long(3 + i)}
		} else {
			*number(&r, f.name) = (0x81726354 + i*0x01010101) & greatest(f.width)
		}
	}
	return r
}

// samples returns valid records of all kinds.
func samples() []api.Rec {
	var l []api.Rec
	for _, s := range shapes {
		l = append(l, s.zero(), s.mixed(), s.most())
		for _, name := range valueNames {
			if _, has := s.width(name); has {
				none, empty := s.most(), s.mixed()
				*value(&none, name) = api.Val{}
				*value(&empty, name) = api.Val{Is: true}
				l = append(l, none, empty)
			}
		}
	}
	return l
}

// mayBe is what the document says of May.
func mayBe(r api.Rec) bool {
	s, known := shapeOf(r.Kind)
	if !known {
		return false
	}
	for _, name := range numberNames {
		width, has := s.width(name)
		n := *number(&r, name)
		if n < 0 || !has && n != 0 || has && n > greatest(width) {
			return false
		}
	}
	for _, name := range valueNames {
		_, has := s.width(name)
		v := *value(&r, name)
		if v.Is && !has || !v.Is && len(v.B) > 0 || len(v.B) > 32 {
			return false
		}
	}
	return true
}

// encoding is what the document says of the bytes of a valid record.
func encoding(r api.Rec) []byte {
	s, _ := shapeOf(r.Kind)
	b := []byte{byte(r.Kind)}
	for _, f := range s.list() {
		if f.width > 0 {
			n := *number(&r, f.name)
			for range f.width {
				b = append(b, byte(n%256))
				n /= 256
			}
			continue
		}
		if v := *value(&r, f.name); v.Is {
			b = append(append(b, byte(len(v.B))), v.B...)
		} else {
			b = append(b, 255)
		}
	}
	return b
}

// fault is what the document says of the error of Decode: it goes over the bytes alone, and never makes a record.
func fault(b []byte) api.Errno {
	if len(b) == 0 {
		return api.ErrShort
	}
	s, known := shapeOf(int(b[0]))
	if !known {
		return api.ErrForm
	}
	at := 1
	for _, f := range s.list() {
		if f.width == 0 && at < len(b) {
			if b[at] > 32 && b[at] < 255 {
				return api.ErrForm
			}
			if b[at] < 255 {
				at += int(b[at])
			}
			at++
		} else {
			at += max(f.width, 1)
		}
		if at > len(b) {
			return api.ErrShort
		}
	}
	if at < len(b) {
		return api.ErrForm
	}
	return api.OK
}

func sameVal(a, b api.Val) bool {
	return a.Is == b.Is && bytes.Equal(a.B, b.B)
}

// same reports whether two records are equal; an empty list of bytes may be nil or not.
func same(a, b api.Rec) bool {
	for _, name := range numberNames {
		if *number(&a, name) != *number(&b, name) {
			return false
		}
	}
	return a.Kind == b.Kind && sameVal(a.Old, b.Old) && sameVal(a.New, b.New)
}

// cloned returns r in memory of its own.
func cloned(r api.Rec) api.Rec {
	r.Old.B, r.New.B = bytes.Clone(r.Old.B), bytes.Clone(r.New.B)
	return r
}

func wantValid(t *testing.T, what string, r api.Rec) {
	t.Helper()
	if !May(r) {
		t.Errorf("%s: %v is not valid", what, r)
	}
	wantEncoded(t, what, r, encoding(r)...)
}

func wantNotValid(t *testing.T, what string, r api.Rec) {
	t.Helper()
	if May(r) {
		t.Errorf("%s: %v is valid", what, r)
	}
	if b, e := Encode(r); e != api.ErrArg || b != nil {
		t.Errorf("%s: Encode of %v returned %v and the error %d, want nothing and ErrArg", what, r, b, e)
	}
}

func wantEncoded(t *testing.T, what string, r api.Rec, want ...byte) {
	t.Helper()
	if b, e := Encode(r); e != api.OK || !bytes.Equal(b, want) {
		t.Errorf("%s: Encode of %v returned %v and the error %d, want %v", what, r, b, e, want)
	}
}

func wantDecoded(t *testing.T, what string, b []byte, want api.Rec) {
	t.Helper()
	if r, e := Decode(b); e != api.OK || !same(r, want) {
		t.Errorf("%s: Decode of %v returned %v and the error %d, want %v", what, b, r, e, want)
	}
}

// wantFault checks the error of Decode, beside which the record is the zero value, without lists.
func wantFault(t *testing.T, what string, b []byte, want api.Errno) {
	t.Helper()
	r, e := Decode(b)
	if e != want || !same(r, api.Rec{}) || r.Old.B != nil || r.New.B != nil {
		t.Errorf("%s: Decode of %v returned %v and the error %d, want nothing and %d", what, b, r, e, want)
	}
}

// R1, P6.1, P6.2 and P6.4: whatever the numbers and values of a record are, each answer is the one that the document says.
func FuzzRec(f *testing.F) {
	for _, r := range samples() {
		f.Add(r.Kind, r.Tx, r.State, r.Page, r.Key, r.Seg, r.Slot, r.Prev, r.Next, r.At, r.Old.Is, r.Old.B, r.New.Is, r.New.B)
	}
	f.Add(0, 0, 0, 0, 0, 0, 0, 0, 0, 0, false, []byte{}, false, []byte{})
	f.Add(12, 1, 2, 3, 4, 5, 6, 7, 8, 9, true, []byte{1}, true, []byte{2})
	f.Add(1, 256, 0, 0, 65536, 0, 0, -1, 0, 0, true, long(33), false, []byte{1})
	f.Add(math.MinInt, math.MaxInt, -1, 0, 0, 0, 0, 0, 0, 1<<32, false, long(300), true, long(300))
	f.Fuzz(func(t *testing.T, kind, tx, state, page, key, seg, slot, prev, next, at int, oldIs bool, oldB []byte, newIs bool, newB []byte) {
		r := api.Rec{Kind: kind, Tx: tx, State: state, Page: page, Key: key, Seg: seg, Slot: slot, Prev: prev, Next: next, At: at, Old: api.Val{Is: oldIs, B: oldB}, New: api.Val{Is: newIs, B: newB}}
		was := cloned(r)
		if mayBe(r) {
			wantValid(t, "valid", r)
			wantDecoded(t, "there and back", encoding(r), r)
		} else {
			wantNotValid(t, "not valid", r)
		}
		if !same(r, was) {
			t.Errorf("%v was changed to %v", was, r)
		}
	})
}

// R1, P6.3 and P6.4: whatever the bytes are, the error is the one that the document says, and without one the record has these bytes.
func FuzzDecode(f *testing.F) {
	for _, r := range samples() {
		f.Add(encoding(r))
		f.Add(append(encoding(r), 0))
	}
	f.Add([]byte{})
	f.Add([]byte{1, 1, 2, 0, 0, 0, 3, 4, 1, 33, 1, 97})
	f.Add([]byte{1, 1, 2, 0, 0, 0, 3, 4, 1, 1, 97, 254})
	f.Fuzz(func(t *testing.T, b []byte) {
		was := bytes.Clone(b)
		if e := fault(b); e != api.OK {
			wantFault(t, "a fault", b, e)
		} else {
			r, _ := Decode(b)
			wantDecoded(t, "no fault", b, r)
			wantValid(t, "what was decoded", r)
			wantEncoded(t, "back and there", r, b...)
		}
		if !bytes.Equal(b, was) {
			t.Errorf("%v was changed to %v", was, b)
		}
	})
}
