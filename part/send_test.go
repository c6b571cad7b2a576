package part

import (
	"bytes"
	"math"
	"testing"

	"omnibus/api"
)

// partsSent is how many parts go, counted one by one.
func partsSent(n, block int) int {
	if n <= 7 {
		return 1
	}
	parts := 2 // the first one, and its answer
	for at, inBlock := 6, 0; at < n; at += 7 {
		if block != 0 && inBlock == block {
			parts++
			inBlock = 0
		}
		parts++
		inBlock++
	}
	return parts
}

// TestSendKnown: how many parts go, by numbers that are written out.
func TestSendKnown(t *testing.T) {
	tests := []struct{ n, block, want int }{
		{1, 0, 1}, {1, 1, 1}, {7, 0, 1}, {7, 1, 1}, {7, 255, 1},
		{8, 0, 3}, {8, 1, 3}, {8, 2, 3}, {8, 255, 3},
		{13, 1, 3}, {14, 0, 4}, {14, 1, 5}, {14, 2, 4},
		{20, 1, 5}, {20, 2, 4}, {21, 1, 7}, {21, 2, 6}, {21, 3, 5},
		{34, 2, 7}, {35, 2, 9}, {111, 15, 17}, {112, 15, 19}, {118, 16, 18}, {119, 16, 20},
		{300, 0, 44}, {300, 1, 85}, {300, 2, 64}, {300, 15, 46}, {300, 41, 45}, {300, 42, 44}, {300, 43, 44}, {300, 255, 44},
	}
	for _, x := range tests {
		data := mixed(x.n, int64(x.n))
		if out, parts, e := Send(data, x.block); !bytes.Equal(out, data) || parts != x.want || e != api.OK {
			t.Errorf("Send of %d bytes, %d at a time: %x, %d parts, %d, want %d", x.n, x.block, out, parts, e, x.want)
		}
	}
}

// checkSent holds Send against what was sent, and against Split.
func checkSent(t *testing.T, data []byte, block int) {
	t.Helper()
	out, parts, e := Send(data, block)
	l, splitError := Split(data)
	if e != splitError {
		t.Fatalf("Send of %d bytes, %d at a time: %d, want %d", len(data), block, e, splitError)
	}
	if e != api.OK {
		if out != nil || parts != 0 {
			t.Fatalf("Send of %d bytes, %d at a time: %x %d, want none", len(data), block, out, parts)
		}
		return
	}
	want := len(l)
	if len(l) > 1 {
		want++
		if block > 0 {
			want += (len(l) - 2) / block
		}
	}
	if !bytes.Equal(out, data) || parts != want || parts != partsSent(len(data), block) {
		t.Fatalf("Send(%x, %d): %x, %d parts, want %d", data, block, out, parts, want)
	}
}

// TestSend: each length, with each block.
func TestSend(t *testing.T) {
	for n := range api.MaxMessage + 2 {
		for _, block := range []int{0, 1, 2, 3, 5, 7, 14, 15, 16, 17, 41, 42, 43, 127, 128, 254, 255} {
			checkSent(t, mixed(n, int64(block)), block)
		}
	}
	for _, n := range edges {
		for block := range 256 {
			checkSent(t, counted(n), block)
		}
	}
}

// TestSendWrong: a block that may not be is told ahead of what is wrong with the
// data.
func TestSendWrong(t *testing.T) {
	for n := range api.MaxMessage + 3 {
		for _, block := range []int{-1, -2, 256, 257, -255, 511, 1 << 32, 1<<32 + 1, math.MinInt, math.MaxInt} {
			if out, parts, e := Send(counted(n), block); out != nil || parts != 0 || e != api.ErrRange {
				t.Errorf("Send of %d bytes, %d at a time: %x %d %d, want none, %d", n, block, out, parts, e, api.ErrRange)
			}
		}
	}
	for want, l := range wrongData() {
		for _, data := range l {
			for _, block := range someBlocks {
				if out, parts, e := Send(data, block); out != nil || parts != 0 || e != want {
					t.Errorf("Send of %d bytes, %d at a time: %x %d %d, want none, %d", len(data), block, out, parts, e, want)
				}
			}
		}
	}
}

func TestSendMemory(t *testing.T) {
	for n := range api.MaxMessage + 2 {
		for _, block := range []int{-1, 0, 1, 2, 255} {
			data := roomy(mixed(n, 6))
			same := kept(t, "Send", data)
			out, _, _ := Send(data, block)
			same()
			checkApart(t, "Send", out, data)
		}
	}
}
