package wire

import (
	"bytes"
	"reflect"
	"slices"
	"testing"

	"purse/api"
)

// roomy gives each list within v room behind its end, set to something; still
// tells whether all lists, and that room, are as they then were.
func roomy(v reflect.Value) (still func() bool) {
	var stills []func() bool
	// Lists within lists first, as the outer ones are laid anew with them.
	for _, s := range slices.Backward(spots(v, "")) {
		if s.v.Kind() != reflect.Slice {
			continue
		}
		n := s.v.Len()
		wide := reflect.MakeSlice(s.v.Type(), n+5, n+5)
		reflect.Copy(wide, s.v)
		next := 1000
		for i := n; i < n+5; i++ {
			if wide.Index(i).Kind() == reflect.Uint8 {
				wide.Index(i).SetUint(uint64(90 + i))
			} else {
				fill(wide.Index(i), 1, &next)
			}
		}
		s.v.Set(wide.Slice(0, n))
		stills = append(stills, keeps(wide))
	}
	return func() bool {
		for _, still := range stills {
			if !still() {
				return false
			}
		}
		return true
	}
}

// keeps tells whether a list is still what it was: its headers and elements.
func keeps(wide reflect.Value) func() bool {
	was := reflect.MakeSlice(wide.Type(), wide.Len(), wide.Len())
	reflect.Copy(was, wide)
	return func() bool {
		for i := range was.Len() {
			if !sameHeaders(was.Index(i), wide.Index(i)) {
				return false
			}
		}
		return true
	}
}

// sameHeaders holds plain fields against each other, and of lists where they
// lie and how far they reach.
func sameHeaders(a, b reflect.Value) bool {
	switch a.Kind() {
	case reflect.Struct:
		for i := range a.NumField() {
			if !sameHeaders(a.Field(i), b.Field(i)) {
				return false
			}
		}
		return true
	case reflect.Slice:
		return a.Pointer() == b.Pointer() && a.Len() == b.Len() && a.Cap() == b.Cap()
	}
	return a.Interface() == b.Interface()
}

func TestR3WhatIsWrittenStaysAsItWas(t *testing.T) {
	for _, k := range kinds() {
		v := reflect.New(k.of).Elem()
		next := 0
		fill(v, 3, &next)
		still := roomy(v)
		want, _ := plain(v.Interface())
		b := k.mustWrite(t, v.Interface())
		if again, _ := plain(v.Interface()); !still() || !bytes.Equal(b, want) || !bytes.Equal(again, want) {
			t.Errorf("%s changes what it is handed", k.name)
		}
	}
}

// TestR3WhatIsRefusedStaysAsItWas refuses at each string and list of a thing,
// those within lists too: what stands ahead was gone over by then.
func TestR3WhatIsRefusedStaysAsItWas(t *testing.T) {
	for _, k := range kinds() {
		for i := range spots(reflect.ValueOf(k.full(3)), "") {
			v := reflect.New(k.of).Elem()
			next := 0
			fill(v, 3, &next)
			over := spots(v, "")[i]
			over.resize(66000)
			still := roomy(v)
			k.tooLong(t, "too much in "+over.path, v.Interface())
			if !still() {
				t.Errorf("%s changes what it refuses, with too much in %s", k.name, over.path)
			}
		}
	}
}

func TestR3WhatIsReadStaysAsItWas(t *testing.T) {
	for _, k := range kinds() {
		good := k.mustWrite(t, k.full(3))
		for n := len(good); n > len(good)-40; n-- {
			wide := bytes.Repeat([]byte{0xEE}, n+9)
			copy(wide, good[:n])
			was := bytes.Clone(wide)
			k.read(wide[:n])
			if !bytes.Equal(wide, was) {
				t.Errorf("Read%s changes the bytes that it is handed", k.name)
			}
		}
	}
}

// TestR3BytesOfTheirOwn: what is written lies in memory of its own, and hangs
// on the thing no more.
func TestR3BytesOfTheirOwn(t *testing.T) {
	for _, k := range kinds() {
		v := k.full(3)
		want, _ := plain(v)
		first, second := k.mustWrite(t, v), k.mustWrite(t, v)
		clear(first[:cap(first)])
		if !bytes.Equal(second, want) || !bytes.Equal(k.mustWrite(t, v), want) {
			t.Errorf("two answers of %s share memory", k.name)
		}
		for _, s := range spots(reflect.ValueOf(v), "") {
			if s.v.Kind() == reflect.Slice && s.v.Type().Elem().Kind() == reflect.Uint8 {
				clear(s.v.Bytes())
			}
		}
		if !bytes.Equal(second, want) {
			t.Errorf("what %s answers shares memory with the thing", k.name)
		}
	}
}

// TestR3ThingsOfTheirOwn: what is read hangs on the bytes no more, and no two
// lists of it, or of two answers, share memory.
func TestR3ThingsOfTheirOwn(t *testing.T) {
	for _, k := range kinds() {
		v := k.full(3)
		b := k.mustWrite(t, v)
		first, e := k.read(b)
		second, f := k.read(b)
		clear(b)
		if e != api.OK || f != api.OK || !same(first, v) || !same(second, v) {
			t.Fatalf("what Read%s answers hangs on the bytes that it was handed", k.name)
		}
		all := spots(reflect.ValueOf(first), "")
		for i, s := range all {
			if s.v.Kind() == reflect.Slice {
				scrawl(s.v)
				checkOthers(t, k, all[i+1:], spots(reflect.ValueOf(v), "")[i+1:], s)
			}
		}
		if !same(second, v) {
			t.Errorf("two answers of Read%s share memory", k.name)
		}
	}
}

// scrawl writes over the room behind a list's end, and over a list of bytes.
func scrawl(l reflect.Value) {
	wide := l.Slice(0, l.Cap())
	for i := range wide.Len() {
		switch {
		case wide.Index(i).Kind() == reflect.Uint8:
			wide.Index(i).SetUint(0xEE)
		case i >= l.Len():
			next := 5000
			fill(wide.Index(i), 1, &next)
		}
	}
}

// checkOthers holds the lists of bytes and strings behind one that was written
// over against what they were.
func checkOthers(t *testing.T, k kind, got, want []spot, over spot) {
	t.Helper()
	for i := range got {
		if got[i].isText() && !same(got[i].v.Interface(), want[i].v.Interface()) {
			t.Errorf("Read%s: %s shares memory with %s", k.name, got[i].path, over.path)
		}
	}
}
