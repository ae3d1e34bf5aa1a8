package cut_test

import (
	"fmt"
	"math"
	"slices"
	"testing"

	"pendentive/api"
	"pendentive/cut"
)

// P13.1: answers that are written out.
func TestKnownFrames(t *testing.T) {
	for _, x := range []struct {
		op   int
		data string
		most int
		want []api.Frame
	}{
		{1, "Hello", 2, []api.Frame{{Op: 1, Data: "He"}, {Op: 0, Data: "ll"}, {Fin: true, Op: 0, Data: "o"}}},
		{2, "Hello", 2, []api.Frame{{Op: 2, Data: "He"}, {Op: 0, Data: "ll"}, {Fin: true, Op: 0, Data: "o"}}},
		{1, "Hello", 1, []api.Frame{{Op: 1, Data: "H"}, {Data: "e"}, {Data: "l"}, {Data: "l"}, {Fin: true, Data: "o"}}},
		{1, "Hello", 3, []api.Frame{{Op: 1, Data: "Hel"}, {Fin: true, Data: "lo"}}},
		{1, "Hello", 4, []api.Frame{{Op: 1, Data: "Hell"}, {Fin: true, Data: "o"}}},
		{1, "Hello", 5, []api.Frame{{Fin: true, Op: 1, Data: "Hello"}}},
		{1, "Hello", 6, []api.Frame{{Fin: true, Op: 1, Data: "Hello"}}},
		{2, "Hello", 65536, []api.Frame{{Fin: true, Op: 2, Data: "Hello"}}},
		{1, "", 1, []api.Frame{{Fin: true, Op: 1}}},
		{2, "", 65536, []api.Frame{{Fin: true, Op: 2}}},
		{2, "a", 1, []api.Frame{{Fin: true, Op: 2, Data: "a"}}},
		{1, "abcd", 2, []api.Frame{{Op: 1, Data: "ab"}, {Fin: true, Data: "cd"}}},
		{1, "abcdef", 2, []api.Frame{{Op: 1, Data: "ab"}, {Data: "cd"}, {Fin: true, Data: "ef"}}},
		{1, "abcdef", 3, []api.Frame{{Op: 1, Data: "abc"}, {Fin: true, Data: "def"}}},
		{1, "\xe2\x82\xac", 2, []api.Frame{{Op: 1, Data: "\xe2\x82"}, {Fin: true, Data: "\xac"}}},
		{1, "a\xff\x00", 1, []api.Frame{{Op: 1, Data: "a"}, {Data: "\xff"}, {Fin: true, Data: "\x00"}}},
		{2, "\x00\x00\x00", 2, []api.Frame{{Op: 2, Data: "\x00\x00"}, {Fin: true, Data: "\x00"}}},
		{2, longest[:65536], 65536, []api.Frame{{Fin: true, Op: 2, Data: longest[:65536]}}},
		{2, longest[:65537], 65536, []api.Frame{{Op: 2, Data: longest[:65536]}, {Fin: true, Data: longest[65536:65537]}}},
		{1, longest[:65536], 65535, []api.Frame{{Op: 1, Data: longest[:65535]}, {Fin: true, Data: longest[65535:65536]}}},
		{2, longest[:1<<17], 65536, []api.Frame{{Op: 2, Data: longest[:65536]}, {Fin: true, Data: longest[65536 : 1<<17]}}},
		{2, longest[:1<<17+1], 65536, []api.Frame{{Op: 2, Data: longest[:65536]}, {Data: longest[65536 : 1<<17]}, {Fin: true, Data: longest[1<<17 : 1<<17+1]}}},
	} {
		checkFrames(t, x.op, x.data, x.most, x.want, 0)
	}
}

// P13.1: of an op, a bound and bytes of which one may not be, or two, or all three: ErrCutSize, and no frames.
func TestWrongSizes(t *testing.T) {
	may := 0
	for _, op := range ops {
		for _, most := range bounds {
			for _, n := range []int{0, 1, 5, greatest, greatest + 1} {
				if n > 5 && (op < 0 || op > 2) {
					continue // the few long ones that count are below
				}
				if most == 1 && n >= greatest && (op == 1 || op == 2) {
					continue // in TestLongest
				}
				reckonFrames(t, op, longest[:n], most)
				if _, err := plainFrames(op, longest[:n], most); err == 0 {
					may++
				}
			}
		}
	}
	if want := 2*6*4 - 2; may != want {
		t.Errorf("%d of the sizes may be, want %d", may, want)
	}
}

// P13.1: so told one by one, with all else as it may be.
func TestKnownWrongSizes(t *testing.T) {
	for _, x := range []struct {
		op, size, most int
	}{
		{0, 1, 1}, {8, 1, 1}, {9, 1, 1}, {10, 1, 1}, {3, 1, 1}, {-1, 1, 1}, {math.MinInt, 1, 1}, {math.MaxInt, 1, 1}, {257, 1, 1}, {1<<32 + 2, 1, 1}, {0, 0, 1},
		{1, 1, 0}, {1, 0, 0}, {2, 1, -1}, {1, 1, 65537}, {1, 0, 65537}, {1, 5, math.MinInt}, {1, 5, math.MaxInt}, {2, 1, 1<<32 + 1},
		{1, greatest + 1, 1}, {2, greatest + 1, 65536}, {1, 2 * greatest, 65536}, {1, 3*greatest + 5, 1000},
		{0, greatest + 1, 65536}, {1, greatest + 1, 0}, {9, 1, 65537}, {-1, greatest + 1, -1}, {9, greatest, 65536}, {-1, greatest, 1}, {257, greatest + 1, 65536},
	} {
		checkFrames(t, x.op, sample(x.size), x.most, nil, 130)
	}
}

// P13.1: messages of every size up to some hundred, by every bound up to some more.
func TestEverySize(t *testing.T) {
	for n := range 131 {
		for most := 1; most < 140; most++ {
			for _, op := range []int{1, 2} {
				reckonFrames(t, op, longest[n:2*n], most)
			}
		}
	}
}

// around are the sizes of so many times most bytes, and next to them, that a message may have.
func around(most int) []int {
	var out []int
	for _, times := range []int{0, 1, 2, 3, 4, 7, 8, 15, 16, 100} {
		for n := times*most - 1; n <= times*most+1; n++ {
			if n >= 0 && n <= greatest {
				out = append(out, n)
			}
		}
	}
	return out
}

// P13.1: messages of just so many times a bound, and of one byte less and more.
func TestAroundBounds(t *testing.T) {
	for _, most := range []int{1, 2, 3, 4, 5, 7, 124, 125, 126, 127, 128, 255, 256, 257, 1000, 1023, 1024, 4096, 10000, 32768, 65534, 65535, 65536} {
		for _, n := range around(most) {
			reckonFrames(t, 1+n%2, longest[:n], most)
		}
	}
}

// P13.1: each thing that the chapter says of the frames, of many sizes, told apart.
func TestEachFrame(t *testing.T) {
	for _, n := range []int{0, 1, 2, 5, 6, 7, 11, 12, 13, 300, 65535, 65536, 65537, greatest - 1, greatest} {
		for _, most := range []int{1, 2, 3, 6, 299, 300, 301, 65535, 65536} {
			if n/most > 1<<17 {
				continue
			}
			for op := 1; op <= 2; op++ {
				l, err := cut.Frames(op, longest[:n], most)
				if err != 0 || len(l) != cut.Count(n, most) || len(l) < 1 {
					t.Fatalf("%d bytes by %d: %d frames, error %d", n, most, len(l), err)
				}
				at := 0
				for i, f := range l {
					at += len(f.Data)
					first, last := i == 0, i == len(l)-1
					switch {
					case f.Masked || f.Key != [4]byte{}:
						t.Fatalf("%d bytes by %d: frame %d is masked", n, most, i)
					case first && f.Op != op || !first && f.Op != 0:
						t.Fatalf("%d bytes by %d: frame %d is of op %d", n, most, i, f.Op)
					case f.Fin != last:
						t.Fatalf("%d bytes by %d: frame %d of %d is Fin: %t", n, most, i, len(l), f.Fin)
					case !last && len(f.Data) != most || len(f.Data) > most || len(f.Data) == 0 && n > 0:
						t.Fatalf("%d bytes by %d: frame %d has %d", n, most, i, len(f.Data))
					case longest[at-len(f.Data):at] != f.Data:
						t.Fatalf("%d bytes by %d: frame %d is others", n, most, i)
					}
				}
				if at != n {
					t.Fatalf("%d bytes by %d: %d bytes in all", n, most, at)
				}
			}
		}
	}
}

// P13.1, P1: as many bytes as a message may have, by one byte and by many, in good time; and one byte more.
func TestLongest(t *testing.T) {
	for _, most := range []int{1, 2, 3, 5, 125, 1023, 1024, 1025, 65535, 65536} {
		reckonFrames(t, 1+most%2, longest[:greatest], most)
		checkFrames(t, 1+most%2, longest, most, nil, 130)
	}
}

// P13.1: answers of Count that are written out.
func TestKnownCount(t *testing.T) {
	for _, x := range []struct{ size, most, want int }{
		{0, 1, 1}, {0, 65536, 1}, {1, 1, 1}, {2, 1, 2}, {5, 2, 3}, {4, 2, 2}, {5, 5, 1}, {5, 4, 2}, {5, 6, 1}, {10, 3, 4}, {9, 3, 3}, {8, 3, 3},
		{65536, 65536, 1}, {65537, 65536, 2}, {131072, 65536, 2}, {131073, 65536, 3}, {65536, 65535, 2}, {65536, 1, 65536},
		{1048576, 1, 1048576}, {1048576, 2, 524288}, {1048576, 65536, 16}, {1048575, 65536, 16}, {1048576, 65535, 17}, {983040, 65536, 15}, {983041, 65536, 16},
		{1048577, 1, 0}, {1048577, 65536, 0}, {-1, 1, 0}, {-1, 65536, 0}, {-65536, 65536, 0}, {math.MinInt, 1, 0}, {math.MaxInt, 1, 0}, {math.MaxInt, 65536, 0}, {1 << 32, 1, 0},
		{0, 0, 0}, {5, 0, 0}, {5, -1, 0}, {5, -5, 0}, {5, 65537, 0}, {0, 65537, 0}, {5, math.MinInt, 0}, {5, math.MaxInt, 0}, {5, 1<<32 + 1, 0}, {0, -1, 0},
		{-1, -1, 0}, {-5, -2, 0}, {math.MinInt, math.MinInt, 0}, {math.MaxInt, math.MaxInt, 0}, {math.MinInt, -1, 0}, {math.MinInt, 0, 0},
	} {
		if got := cut.Count(x.size, x.most); got != x.want {
			t.Errorf("Count(%d, %d): %d, want %d", x.size, x.most, got, x.want)
		}
	}
}

// P13.1: Count of every size and bound up to some hundred, and round what the chapter names.
func TestEveryCount(t *testing.T) {
	some := slices.Concat(sizes, bounds, ops)
	for i := range 400 {
		some = append(some, i)
	}
	for _, size := range some {
		for _, most := range some {
			if got, want := cut.Count(size, most), plainCount(size, most); got != want {
				t.Fatalf("Count(%d, %d): %d, want %d", size, most, got, want)
			}
		}
	}
}

// P13.1: Count by every bound that may be: the last bytes are at most so many, and at least one.
func TestCountEveryBound(t *testing.T) {
	for most := 1; most <= 65536; most++ {
		for _, size := range []int{1, most - 1, most, most + 1, 2 * most, 2*most + 1, 65536, 1000003, greatest - 1, greatest} {
			if size < 1 || size > greatest {
				continue
			}
			n := cut.Count(size, most)
			if last := size - (n-1)*most; last < 1 || last > most {
				t.Fatalf("Count(%d, %d): %d", size, most, n)
			}
		}
		if n := cut.Count(0, most); n != 1 {
			t.Fatalf("Count(0, %d): %d", most, n)
		}
	}
}

// P13.1: Count is as many as Frames has, or 0 where it has none.
func TestCountIsFrames(t *testing.T) {
	for _, most := range slices.Concat(bounds, []int{4, 7, 100, 1000}) {
		for _, n := range []int{0, 1, 2, 3, 4, 5, 99, 100, 101, 1000, 65535, 65536, 65537, greatest - 1, greatest, greatest + 1} {
			l, err := cut.Frames(2, longest[:n], most)
			if got := cut.Count(n, most); got != len(l) || (got == 0) != (err == 130) {
				t.Errorf("Count(%d, %d): %d, where Frames has %d, error %d", n, most, got, len(l), err)
			}
		}
	}
}

// P13.1: what one answer has stands, whatever is asked later.
func TestFramesStand(t *testing.T) {
	one, _ := cut.Frames(1, "Hello", 2)
	for _, data := range []string{"other", "", "longer than that", "abcde"} {
		cut.Frames(2, data, 2)
		cut.Frames(2, data, 65537)
	}
	if s := fmt.Sprint(one); s != fmt.Sprint([]api.Frame{text(false, "He"), more(false, "ll"), more(true, "o")}) {
		t.Errorf("the answer is %s behind others", s)
	}
}

// P1, P13.1 and P13.3: whatever is asked, Frames answers, and none panics.
func FuzzFrames(f *testing.F) {
	for _, op := range []int{0, 1, 2, 9} {
		for _, most := range []int{-1, 0, 1, 2, 5, 65536, 65537} {
			f.Add(op, "Hello", most)
			f.Add(op, "", most)
			f.Add(op, "\xe2\x82\xac\xff\x00abc", most)
		}
	}
	f.Fuzz(func(t *testing.T, op int, data string, most int) {
		reckonFrames(t, op, data, most)
		reckonFrames(t, 1+op&1, data, 1+most&7)
		l, err := cut.Frames(op, data, most)
		if gotOp, got, is := cut.Join(l); is != (err == 0) || is && (gotOp != op || got != data) || !is && (gotOp != 0 || got != "") {
			t.Errorf("Join of Frames(%d, %q, %d): %d, %q, %t", op, data, most, gotOp, got, is)
		}
		if got, want := cut.Count(op, most), plainCount(op, most); got != want {
			t.Errorf("Count(%d, %d): %d, want %d", op, most, got, want)
		}
	})
}
