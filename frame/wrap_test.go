package frame_test

import (
	"bytes"
	"testing"

	"bollard/frame"
)

// wraps must be what Wrap answers.
func wraps(t *testing.T, b, want []byte, ok bool) {
	t.Helper()
	if got, is := frame.Wrap(b); !bytes.Equal(got, want) || is != ok {
		t.Errorf("P19.2: Wrap(%.10x (%d bytes)) = %.20x (%d bytes) %v, want %.20x (%d bytes) %v", b, len(b), got, len(got), is, want, len(want), ok)
	}
}

func TestWrap(t *testing.T) {
	wraps(t, nil, []byte{0, 0, 0, 0}, true)
	wraps(t, []byte{}, []byte{0, 0, 0, 0}, true)
	wraps(t, make([]byte, 0, 50), []byte{0, 0, 0, 0}, true)
	wraps(t, []byte{0}, []byte{0, 0, 0, 1, 0}, true)
	wraps(t, []byte("ab"), []byte{0, 0, 0, 2, 'a', 'b'}, true)
	for n := range most + 1 {
		wraps(t, long(n), framed(n), true)
		if t.Failed() {
			return
		}
	}
}

func TestWrapOfTooMany(t *testing.T) {
	for _, n := range []int{most + 1, most + 2, 2 * most, 1<<16 - 1, 1 << 16, 1<<16 + 1, 1 << 24, 1<<24 + 1} {
		wraps(t, make([]byte, n), nil, false)
	}
	wraps(t, make([]byte, most, 5*most), append(length(most), make([]byte, most)...), true)
	wraps(t, make([]byte, most+1, 5*most), nil, false)
}

// TestWrapOfFrame: what is wrapped may be a frame, or no frame, itself.
func TestWrapOfFrame(t *testing.T) {
	wraps(t, framed(3), append(length(7), framed(3)...), true)
	wraps(t, length(1<<32-1), []byte{0, 0, 0, 4, 255, 255, 255, 255}, true)
	wraps(t, framed(most-4), append(length(most), framed(most-4)...), true)
	wraps(t, framed(most-3), nil, false)
}

// TestZero: a zero Feeder does what a new one does, at each call.
func TestZero(t *testing.T) {
	var f frame.Feeder
	if n := f.Waiting(); n != 0 {
		t.Errorf("P19.2: Waiting of a zero Feeder = %d", n)
	}
	tells(t, "P19.2", &frame.Feeder{}, nil, nil, true, 0)
	tells(t, "P19.2", &frame.Feeder{}, framesOf(2, 0, most), bodies(2, 0, most), true, 0)
	tells(t, "P19.2", &frame.Feeder{}, length(most+1), nil, false, 0)
	row := append(framesOf(0, 1, 5, 0), 0, 0, 32, 1)
	k := made(t, "P19.2", row)
	k.f = &f
	for range row {
		k.feed(1)
	}
	isShut(t, "P19.2", &f)
}

func TestNew(t *testing.T) {
	if frame.New() == nil {
		t.Fatal("P19.2: New is nil")
	}
	if frame.New() == frame.New() {
		t.Error("P19.2: New is no new one")
	}
}

// TestNil: a nil Feeder tells none, and false; 0; whatever it is fed.
func TestNil(t *testing.T) {
	var f *frame.Feeder
	if n := f.Waiting(); n != 0 {
		t.Errorf("P19.2: Waiting of a nil Feeder = %d", n)
	}
	tells(t, "P19.2", f, length(1), nil, false, 0)
	isShut(t, "P19.2", f)
	tells(t, "P19.2", f, framed(most), nil, false, 0)
}
