package wire

import (
	"encoding/binary"
	"math"
	"math/rand"
	"reflect"
	"strconv"
	"testing"

	"purse/api"
)

// post is a letter as the chapter has it: the group stands ahead of all.
type post struct {
	Group  int
	Letter api.Letter
}

// kind is one of the five things, by its two calls.
type kind struct {
	name  string
	of    reflect.Type
	write func(v any) ([]byte, api.Errno)
	read  func(b []byte) (any, api.Errno)
}

func kinds() []kind {
	return []kind{
		kindOf("Command", Command, ReadCommand),
		kindOf("Letter", writePost, readPost),
		kindOf("Note", Note, ReadNote),
		kindOf("State", State, ReadState),
		kindOf("Chart", Chart, ReadChart),
	}
}

func kindOf[T any](name string, write func(T) ([]byte, api.Errno), read func([]byte) (T, api.Errno)) kind {
	return kind{
		name:  name,
		of:    reflect.TypeFor[T](),
		write: func(v any) ([]byte, api.Errno) { return write(v.(T)) },
		read: func(b []byte) (any, api.Errno) {
			v, e := read(b)
			return v, e
		},
	}
}

func writePost(p post) ([]byte, api.Errno) { return Letter(p.Group, p.Letter) }

func readPost(b []byte) (post, api.Errno) {
	g, l, e := ReadLetter(b)
	return post{g, l}, e
}

func (k kind) zero() any { return reflect.Zero(k.of).Interface() }

// mustWrite writes what may be written.
func (k kind) mustWrite(t *testing.T, v any) []byte {
	t.Helper()
	b, e := k.write(v)
	if e != api.OK {
		t.Fatalf("%s: error %d; want its bytes", k.name, e)
	}
	return b
}

// refuses holds what is read of b against an error, all else being zero.
func (k kind) refuses(t *testing.T, why string, b []byte, want api.Errno) {
	t.Helper()
	v, e := k.read(b)
	if e != want {
		t.Errorf("Read%s of %s: error %d; want %d", k.name, why, e, want)
	}
	if want != api.OK && !reflect.DeepEqual(v, k.zero()) {
		t.Errorf("Read%s of %s: error %d beside %+v", k.name, why, e, v)
	}
}

// tooLong holds what is written of v against ErrLong, with no bytes beside it.
func (k kind) tooLong(t *testing.T, why string, v any) {
	t.Helper()
	if b, e := k.write(v); e != api.ErrLong || len(b) != 0 {
		t.Errorf("%s with %s: %d bytes, error %d; want 22", k.name, why, len(b), e)
	}
}

// part is a field, or the count of a list, within a thing's bytes.
type part struct {
	path     string
	what     reflect.Kind // Int, Uint32, Bool, String (lists of bytes too), Slice (its count)
	at, head int          // where it begins, and how many bytes its number has
	size     int          // how many bytes it has in all
}

// plain is a thing as bytes by the chapter's words alone, and its parts: its
// fields by reflection, numbers by the library.
func plain(v any) ([]byte, []part) {
	var p plainer
	p.lay(reflect.ValueOf(v), "")
	return p.out, p.parts
}

type plainer struct {
	out   []byte
	parts []part
}

func (p *plainer) lay(v reflect.Value, path string) {
	at := len(p.out)
	switch v.Kind() {
	case reflect.Int:
		p.out = binary.AppendVarint(p.out, v.Int())
	case reflect.Uint32:
		p.out = binary.AppendUvarint(p.out, v.Uint())
	case reflect.Bool:
		p.out = append(p.out, map[bool]byte{false: 0, true: 1}[v.Bool()])
	case reflect.String:
		p.layText([]byte(v.String()), path)
		return
	case reflect.Slice:
		if v.Type().Elem().Kind() == reflect.Uint8 {
			p.layText(v.Bytes(), path)
			return
		}
		p.out = binary.AppendUvarint(p.out, uint64(v.Len()))
	case reflect.Struct:
		for i := range v.NumField() {
			p.lay(v.Field(i), path+"."+v.Type().Field(i).Name)
		}
		return
	default:
		panic("no such field in package api: " + path)
	}
	n := len(p.out) - at
	p.parts = append(p.parts, part{path, v.Kind(), at, n, n})
	if v.Kind() == reflect.Slice {
		for i := range v.Len() {
			p.lay(v.Index(i), path+"["+strconv.Itoa(i)+"]")
		}
	}
}

func (p *plainer) layText(b []byte, path string) {
	at := len(p.out)
	p.out = binary.AppendUvarint(p.out, uint64(len(b)))
	head := len(p.out) - at
	p.out = append(p.out, b...)
	p.parts = append(p.parts, part{path, reflect.String, at, head, head + len(b)})
}

// plainRead is what the chapter says of reading b as a thing of a type.
func plainRead(b []byte, of reflect.Type) (v any, e api.Errno) {
	if len(b) > api.MaxFrame {
		return reflect.Zero(of).Interface(), api.ErrLong
	}
	defer func() {
		if x := recover(); x != nil {
			v, e = reflect.Zero(of).Interface(), x.(api.Errno)
		}
	}()
	out := reflect.New(of).Elem()
	if left := plainTake(b, out); len(left) > 0 {
		panic(api.ErrLeft)
	}
	return out.Interface(), api.OK
}

// plainTake fills v in from b on, and answers what is behind it; a fault is a
// panic.
func plainTake(b []byte, v reflect.Value) []byte {
	switch v.Kind() {
	case reflect.Int:
		n, left := plainNumber(b)
		v.SetInt(int64(n>>1) ^ -int64(n&1))
		return left
	case reflect.Uint32:
		n, left := plainNumber(b)
		if n > math.MaxUint32 {
			panic(api.ErrForm)
		}
		v.SetUint(n)
		return left
	case reflect.Bool:
		if len(b) == 0 {
			panic(api.ErrShort)
		}
		if b[0] > 1 {
			panic(api.ErrForm)
		}
		v.SetBool(b[0] == 1)
		return b[1:]
	case reflect.Struct:
		for i := range v.NumField() {
			b = plainTake(b, v.Field(i))
		}
		return b
	}
	return plainTakeMany(b, v)
}

// plainTakeMany takes strings and lists.
func plainTakeMany(b []byte, v reflect.Value) []byte {
	n, left := plainNumber(b)
	items := v.Kind() == reflect.Slice && v.Type().Elem().Kind() != reflect.Uint8
	if items && n > 1024 || n > 65535 {
		panic(api.ErrLong)
	}
	if items {
		v.Set(reflect.MakeSlice(v.Type(), int(n), int(n)))
		for i := range int(n) {
			left = plainTake(left, v.Index(i))
		}
		return left
	}
	if int(n) > len(left) {
		panic(api.ErrShort)
	}
	if v.Kind() == reflect.String {
		v.SetString(string(left[:n]))
	} else {
		v.SetBytes(append([]byte{}, left[:n]...))
	}
	return left[n:]
}

// plainNumber takes a number in its shortest form.
func plainNumber(b []byte) (uint64, []byte) {
	for i, x := range b {
		switch {
		case i == 9 && x > 1, i > 0 && x == 0:
			panic(api.ErrForm)
		case x < 0x80:
			n, size := binary.Uvarint(b)
			if size != i+1 {
				panic("the library reads another number")
			}
			return n, b[size:]
		}
	}
	panic(api.ErrShort)
}

// fill sets every field of v, each to another value, its lists to so many
// elements each.
func fill(v reflect.Value, items int, next *int) {
	*next++
	n := *next
	switch v.Kind() {
	case reflect.Int:
		// Both signs, of one byte and of more.
		v.SetInt(int64(n * 29 * (1 - n%2*2)))
	case reflect.Uint32:
		v.SetUint(uint64(1<<31 + n))
	case reflect.Bool:
		v.SetBool(true)
	case reflect.String:
		v.SetString("text " + strconv.Itoa(n) + "\x00\xff")
	case reflect.Struct:
		for i := range v.NumField() {
			fill(v.Field(i), items, next)
		}
	case reflect.Slice:
		if v.Type().Elem().Kind() == reflect.Uint8 {
			v.SetBytes([]byte("bytes " + strconv.Itoa(n) + "\x00\xff"))
			return
		}
		v.Set(reflect.MakeSlice(v.Type(), items, items))
		for i := range items {
			fill(v.Index(i), items, next)
		}
	}
}

// full is a thing with every field set.
func (k kind) full(items int) any {
	v := reflect.New(k.of).Elem()
	next := 0
	fill(v, items, &next)
	return v.Interface()
}

// chance sets every field of v to something.
func chance(v reflect.Value, r *rand.Rand) {
	switch v.Kind() {
	case reflect.Int:
		v.SetInt(int64(r.Uint64()) >> r.Intn(64))
	case reflect.Uint32:
		v.SetUint(r.Uint64() >> (32 + r.Intn(32)))
	case reflect.Bool:
		v.SetBool(r.Intn(2) == 1)
	case reflect.String:
		v.SetString(string(chanceBytes(r)))
	case reflect.Struct:
		for i := range v.NumField() {
			chance(v.Field(i), r)
		}
	case reflect.Slice:
		if v.Type().Elem().Kind() == reflect.Uint8 {
			v.SetBytes(chanceBytes(r))
			return
		}
		n := r.Intn(4)
		v.Set(reflect.MakeSlice(v.Type(), n, n))
		for i := range n {
			chance(v.Index(i), r)
		}
	}
}

func chanceBytes(r *rand.Rand) []byte {
	b := make([]byte, r.Intn(6))
	if r.Intn(20) == 0 {
		b = make([]byte, r.Intn(300))
	}
	r.Read(b)
	return b
}

func (k kind) chance(r *rand.Rand) any {
	v := reflect.New(k.of).Elem()
	chance(v, r)
	return v.Interface()
}

// same tells whether two things are the same: an empty list is like a nil one.
func same(a, b any) bool {
	return sameValues(reflect.ValueOf(a), reflect.ValueOf(b))
}

func sameValues(a, b reflect.Value) bool {
	switch a.Kind() {
	case reflect.Struct:
		for i := range a.NumField() {
			if !sameValues(a.Field(i), b.Field(i)) {
				return false
			}
		}
		return true
	case reflect.Slice:
		if a.Len() != b.Len() {
			return false
		}
		for i := range a.Len() {
			if !sameValues(a.Index(i), b.Index(i)) {
				return false
			}
		}
		return true
	}
	return a.Interface() == b.Interface()
}

// spot is a string or a list somewhere within a thing.
type spot struct {
	path string
	v    reflect.Value
}

// spots are all strings and lists within v, those within lists too.
func spots(v reflect.Value, path string) []spot {
	var out []spot
	switch v.Kind() {
	case reflect.String:
		out = append(out, spot{path, v})
	case reflect.Struct:
		for i := range v.NumField() {
			out = append(out, spots(v.Field(i), path+"."+v.Type().Field(i).Name)...)
		}
	case reflect.Slice:
		out = append(out, spot{path, v})
		if v.Type().Elem().Kind() == reflect.Struct {
			for i := range v.Len() {
				out = append(out, spots(v.Index(i), path+"["+strconv.Itoa(i)+"]")...)
			}
		}
	}
	return out
}

func (s spot) isText() bool {
	return s.v.Kind() == reflect.String || s.v.Type().Elem().Kind() == reflect.Uint8
}

// resize gives the spot n zero elements, or n bytes.
func (s spot) resize(n int) {
	if s.v.Kind() == reflect.String {
		s.v.SetString(string(make([]byte, n)))
		return
	}
	s.v.Set(reflect.MakeSlice(s.v.Type(), n, n))
}

// eachSpot runs once for each string and list of a thing with one element in
// each list, all else being zero; thing is that thing as it then is.
func (k kind) eachSpot(run func(s spot, thing func() any)) {
	count := len(spots(k.sparse(), ""))
	for i := range count {
		v := k.sparse()
		run(spots(v, "")[i], v.Interface)
	}
}

// sparse is a zero thing, but for one zero element in each list of structs.
func (k kind) sparse() reflect.Value {
	v := reflect.New(k.of).Elem()
	for range 2 { // lists lie in lists, once
		for _, s := range spots(v, "") {
			if !s.isText() && s.v.Len() == 0 {
				s.resize(1)
			}
		}
	}
	return v
}

// swap is b with other bytes in the place of the n that begin at at.
func swap(b []byte, at, n int, with ...byte) []byte {
	out := append([]byte{}, b[:at]...)
	out = append(out, with...)
	return append(out, b[at+n:]...)
}
