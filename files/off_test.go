package files_test

import (
	"testing"

	"bollard/api"
	"bollard/device"
	"bollard/files"
	"bollard/fs"
)

func TestNothingToOpen(t *testing.T) {
	for name, x := range map[string]*files.Table{
		"a nil Table":                        nil,
		"a zero Table":                       {},
		"a Table of a nil file system":       files.New(nil),
		"a Table of a zero file system":      files.New(&fs.FS{}),
		"a Table of what could not be Mount": files.New(unmounted()),
	} {
		t.Run(name, func(t *testing.T) {
			k := &kit{t: t, x: x}
			for range api.MaxFDs + 1 { // none of them is opened
				for _, path := range []string{"/a", "/", "", "a", "/a/b"} {
					k.opens("P11.3", path, false, 0, off)
					k.opens("P11.3", path, true, 0, off)
				}
			}
			for _, fd := range []int{0, 1, 31, 32, -1, least, most} {
				k.shut("P11.3", fd)
				k.seeks("P11.3", fd, -1, arg)
				k.reads("P11.3", fd, -1, "", arg)
				k.preads("P11.3", fd, -1, -1, "", arg)
			}
		})
	}
}

// unmounted is what Mount answers beside an error.
func unmounted() *fs.FS {
	d, _ := device.New(400)
	f, _ := fs.Mount(d)
	return f
}

func TestNewTable(t *testing.T) {
	k := made(t, 400, 60)
	for fd := range api.MaxFDs {
		k.shut("P11.1", fd)
	}
}

// TestTablesHaveNothingInCommon: numbers and places are a Table's own.
func TestTablesHaveNothingInCommon(t *testing.T) {
	k, other := made(t, 400, 60), made(t, 400, 60)
	k.opens("P11.1", "/a", true, 0, ok)
	k.writes("P11.2", 0, "abc", ok)
	other.shut("P11.1", 0)
	other.refuses("P11.1", "/a", false, none)
	other.opens("P11.1", "/a", true, 0, ok)
	other.tells("P11.1", 0, 0, ok)
	k.tells("P11.2", 0, 3, ok)
}

func TestDeadFileSystem(t *testing.T) {
	k := opened(t)
	k.opens("P11.1", "/d/b", true, 1, ok)
	k.d.Cut(0)
	k.writes("P11.3", 0, "x", off)
	k.tells("P11.3", 0, 2, ok)
	k.pwrites("P11.2", 0, 0, "x", off)
	k.pwrites("P11.2", 0, -1, "x", off)
	k.appends("P11.2", 0, "x", off)
	k.writes("P11.2", 1, "x", off)
	k.opens("P11.1", "/new", true, 0, off)
	k.opens("P11.1", "/new", false, 0, none)
	k.opens("P11.1", "/d", true, 0, kind)
	k.opens("P11.1", "a", true, 0, arg)
	k.tells("P11.3", 0, 2, ok)
	k.tells("P11.3", 1, 0, ok)
	k.shut("P11.1", 2)
	k.reads("P11.2", 0, 3, "cde", ok)
	k.preads("P11.2", 0, 0, 9, "abcdef", ok)
	k.tells("P11.2", 0, 5, ok)
	k.seeks("P11.2", 0, 1, ok)
	k.opens("P11.1", "/d/a", true, 2, ok)
	k.reads("P11.4", 2, 1, "a", ok)
	k.closes("P11.1", 1, ok)
	k.opens("P11.1", "/d/a", false, 1, ok)
}

// TestCutAnywhere: with ErrOff the place stays, and behind the crash the call is done wholly or not at all.
func TestCutAnywhere(t *testing.T) {
	for name, do := range map[string]func(k *kit) api.Errno{
		"Write":  func(k *kit) api.Errno { return k.x.Write(0, []byte("CD")) },
		"Pwrite": func(k *kit) api.Errno { return k.x.Pwrite(0, 2, []byte("CD")) },
		"Append": func(k *kit) api.Errno { return k.x.Append(0, []byte("gh")) },
	} {
		was, done := 0, 0
		for cut := 0; ; cut++ {
			k := opened(t)
			k.d.Cut(cut)
			e := do(k)
			if e == ok {
				break
			}
			if e != off {
				t.Fatalf("P11.2: %s cut at op %d = %d, want %d", name, cut, e, off)
			}
			k.tells("P11.3", 0, 2, ok)
			again := remount(t, k.d.Crash([]int{cut % 2}))
			again.opens("P11.1", "/d/a", false, 0, ok)
			b, _ := again.x.Read(0, 9)
			switch string(b) {
			case "abcdef":
				was++
			case "abCDef", "abcdefgh":
				done++
			default:
				t.Fatalf("P11.2: %s cut at op %d left %q", name, cut, b)
			}
		}
		if was == 0 {
			t.Fatalf("P11.2: %s was never cut (%d left, %d done)", name, was, done)
		}
	}
}
