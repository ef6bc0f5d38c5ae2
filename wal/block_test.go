package wal

import (
	"bytes"
	"math/rand"
	"testing"

	"purse/api"
)

func TestABlockIsSealedAndOpened(t *testing.T) {
	random := rand.New(rand.NewSource(1))
	for _, stamp := range []uint64{1, 2, 255, 256, 257, 65535, 65536, 1 << 40, limit - 1} {
		for _, n := range []int{0, 1, part - 1, part} {
			b := make([]byte, n)
			random.Read(b)
			out := sealed(stamp, head, b)
			s, is := opened(9, out)
			if len(out) != api.BlockSize || !is || s.place != 9 || s.stamp != stamp || s.kind != head {
				t.Fatalf("stamp %d, %d bytes: %+v, %t", stamp, n, s, is)
			}
			if len(s.data) != part || !bytes.Equal(s.data[:n], b) || !bytes.Equal(s.data[n:], make([]byte, part-n)) {
				t.Fatalf("stamp %d: %x; want %x and 0s", stamp, s.data, b)
			}
		}
	}
	if _, is := opened(0, make([]byte, api.BlockSize)); is {
		t.Error("a block of 0s counts as written")
	}
	if _, is := opened(0, sealed(limit, head, nil)); is {
		t.Error("a stamp that no log has given counts")
	}
}

// TestP5_4ABlockThatIsTornIsNotWhole lays writes over each other, each torn
// anywhere: what is taken for whole is, byte for byte, what one of them wrote.
// The stamps rise by steps that turn one, two or three of their bytes.
func TestP5_4ABlockThatIsTornIsNotWhole(t *testing.T) {
	random := rand.New(rand.NewSource(2))
	tears := []int{0, 1, 2, 3, 5, 6, 7, 8, 9, 30, 55, 56, 57, 58, 59, 61, 62, 63, 64}
	wholes := 0
	for range 20000 {
		now := make([]byte, api.BlockSize)
		wrote := map[uint64][]byte{}
		stamp := uint64(random.Intn(1 << (8 * random.Intn(4))))
		for range 2 + random.Intn(5) {
			stamp += 1 + uint64(random.Intn(1<<(1+random.Intn(17))))
			b := make([]byte, part)
			random.Read(b)
			out := sealed(stamp, byte(1+random.Intn(3)), b)
			wrote[stamp] = out
			n := tears[random.Intn(len(tears))]
			copy(now[:n], out[:n])
			s, is := opened(0, now)
			if is && !bytes.Equal(now, wrote[s.stamp]) {
				t.Fatalf("stamp %d is taken for whole:\n%x; it was\n%x", s.stamp, now, wrote[s.stamp])
			}
			if n == api.BlockSize && (!is || s.stamp != stamp) {
				t.Fatalf("stamp %d is whole: %+v, %t", stamp, s, is)
			}
			if is {
				wholes++
			}
		}
	}
	if wholes < 5000 {
		t.Errorf("just %d blocks were whole", wholes)
	}
}

// TestP5_4AllWaysToTearThreeWrites: the same with stamps that differ in their
// lowest two bytes alone, and every tear that they can tell.
func TestP5_4AllWaysToTearThreeWrites(t *testing.T) {
	tears := []int{0, 6, 7, 8, 30, 56, 57, 58, 64}
	stamps := []uint64{0x0302, 0x0305, 0x0402, 0x0403, 0x0405, 0x0502}
	try := func(l []uint64, cuts []int) {
		now := make([]byte, api.BlockSize)
		wrote := map[uint64][]byte{}
		for i, stamp := range l {
			wrote[stamp] = sealed(stamp, body, bytes.Repeat([]byte{byte(i + 1)}, part))
			copy(now[:cuts[i]], wrote[stamp][:cuts[i]])
		}
		if s, is := opened(0, now); is && !bytes.Equal(now, wrote[s.stamp]) {
			t.Fatalf("stamps %x torn at %d: %x is taken for %x", l, cuts, now, s.stamp)
		}
	}
	for i, a := range stamps {
		for j, b := range stamps[i+1:] {
			for _, c := range stamps[i+j+2:] {
				for _, x := range tears {
					for _, y := range tears {
						for _, z := range tears {
							try([]uint64{a, b, c}, []int{x, y, z})
						}
					}
				}
			}
		}
	}
}
