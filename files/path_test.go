package files_test

import (
	"testing"

	"bollard/api"
)

func TestRemovedFile(t *testing.T) {
	k := opened(t)
	k.do(k.f.Remove("/d/a"))
	k.fails("P11.2", 0, 2, none, none)
	k.reads("P11.2", 0, -1, "", none)
	k.preads("P11.2", 0, -1, 1, "", none)
	k.pwrites("P11.2", 0, -1, "", none)
	k.seeks("P11.2", 0, 3, ok)
	k.seeks("P11.2", 0, -1, arg)
	k.fails("P11.2", 0, 3, none, none)
	k.do(k.f.Remove("/d"))
	k.fails("P11.2", 0, 3, none, none)
	k.do(k.f.Create("/d"))
	k.fails("P11.2", 0, 3, kind, kind)
	k.closes("P11.1", 0, ok)
}

func TestFileNamedOtherwise(t *testing.T) {
	k := opened(t)
	k.do(k.f.Rename("/d/a", "/d/b"))
	k.fails("P11.2", 0, 2, none, none)
	k.opens("P11.1", "/d/b", false, 1, ok)
	k.reads("P11.2", 1, 9, "abcdef", ok)
	k.do(k.f.Rename("/d/b", "/d/a"))
	k.reads("P11.2", 0, 2, "cd", ok)
	k.fails("P11.2", 1, 6, none, none)
	k.do(k.f.Rename("/d", "/e"))
	k.fails("P11.2", 0, 4, none, none)
	k.do(k.f.Rename("/e", "/d"))
	k.writes("P11.2", 0, "EF", ok)
	k.holds("P11.2", "/d/a", "abcdEF")
}

func TestAnotherFileInItsPlace(t *testing.T) {
	k := opened(t)
	k.do(k.f.Remove("/d/a"), k.f.Create("/d/a"))
	k.reads("P11.2", 0, 9, "", ok)
	k.writes("P11.2", 0, "x", arg)
	k.tells("P11.3", 0, 2, ok)
	k.appends("P11.2", 0, "123", ok)
	k.reads("P11.2", 0, 9, "3", ok)
	k.do(k.f.Create("/n"), k.f.Append("/n", []byte("another")), k.f.Rename("/n", "/d/a"))
	k.reads("P11.2", 0, 2, "th", ok)
	k.writes("P11.2", 0, "ER", ok)
	k.pwrites("P11.2", 0, 0, "A", ok)
	k.tells("P11.2", 0, 7, ok)
	k.holds("P11.2", "/d/a", "AnothER")
}

func TestDirectoryInItsPlace(t *testing.T) {
	k := opened(t)
	k.do(k.f.Remove("/d/a"), k.f.Mkdir("/d/a"))
	k.fails("P11.2", 0, 2, kind, kind)
	k.do(k.f.Create("/d/a/in"))
	k.fails("P11.2", 0, 2, kind, kind)
	k.seeks("P11.2", 0, 0, ok)
	k.do(k.f.Rename("/d/a", "/e"), k.f.Rename("/e/in", "/d/a"))
	k.reads("P11.2", 0, 9, "", ok)
	k.writes("P11.2", 0, "again", ok)
	k.holds("P11.2", "/d/a", "again")
}

func TestFileThatShrinks(t *testing.T) {
	k := opened(t)
	k.seeks("P11.2", 0, 5, ok)
	k.do(k.f.Truncate("/d/a", 3))
	k.tells("P11.2", 0, 5, ok)
	k.reads("P11.2", 0, 9, "", ok)
	k.writes("P11.2", 0, "x", arg)
	k.writes("P11.2", 0, "", arg)
	k.tells("P11.3", 0, 5, ok)
	k.appends("P11.2", 0, "DE", ok)
	k.writes("P11.2", 0, "F", ok)
	k.holds("P11.2", "/d/a", "abcDEF")
	k.do(k.f.Truncate("/d/a", 8))
	k.reads("P11.2", 0, 9, "\x00\x00", ok)
}

func TestPathIsKeptAsItWas(t *testing.T) {
	k := made(t, 400, 60)
	path := []byte("/a")
	k.opens("P11.1", string(path), true, 0, ok)
	copy(path, "/b")
	k.writes("P11.2", 0, "abc", ok)
	k.holds("P11.2", "/a", "abc")
}

func TestTransaction(t *testing.T) {
	k := opened(t)
	k.do(k.f.Begin())
	k.writes("P11.2", 0, "CD", ok)
	k.opens("P11.1", "/new", true, 1, ok)
	k.writes("P11.2", 1, "made", ok)
	k.opens("P11.1", "/new", false, 2, ok)
	k.reads("P11.4", 2, 9, "made", ok)
	k.preads("P11.4", 0, 0, 9, "abCDef", ok)
	k.do(k.f.Abort())
	k.preads("P11.2", 0, 0, 9, "abcdef", ok)
	k.tells("P11.2", 0, 4, ok)
	k.fails("P11.2", 1, 4, none, none)
	k.fails("P11.2", 2, 4, none, none)
	k.do(k.f.Begin())
	k.writes("P11.2", 0, "EF", ok)
	k.opens("P11.1", "/new", true, 3, ok)
	k.appends("P11.2", 1, "again", ok)
	k.do(k.f.Commit())
	k.reads("P11.2", 3, 9, "again", ok)
	again := remount(t, k.d.Crash(nil))
	again.holds("P11.2", "/d/a", "abcdEF")
	again.holds("P11.2", "/new", "again")
}

func TestTransactionThatIsTooGreat(t *testing.T) {
	k := made(t, 800, 60)
	k.opens("P11.1", "/a", true, 0, ok)
	k.writes("P11.2", 0, "abc", ok)
	k.do(k.f.Begin())
	k.writes("P11.2", 0, "def", ok)
	k.opens("P11.1", "/b", true, 1, ok)
	k.writes("P11.3", 1, long(api.MaxFile), big)
	k.tells("P11.3", 1, 0, ok)
	k.tells("P11.3", 0, 6, ok)
	k.reads("P11.2", 0, 9, "", ok)
	k.reads("P11.2", 1, 9, "", none)
	k.opens("P11.1", "/b", true, 0, big)
	k.opens("P11.1", "/b", false, 0, none)
	k.opens("P11.1", "/a", true, 2, ok)
	k.writes("P11.2", 0, "x", big)
	k.pwrites("P11.2", 0, 0, "x", big)
	k.appends("P11.2", 0, "x", big)
	if e := k.f.Commit(); e != big {
		t.Fatalf("P10.2: Commit = %d, want %d", e, big)
	}
	k.holds("P11.2", "/a", "abc")
	k.writes("P11.2", 0, "x", arg)
	k.tells("P11.3", 0, 6, ok)
	k.appends("P11.2", 0, "def", ok)
	k.writes("P11.2", 0, "x", ok)
	k.holds("P11.2", "/a", "abcdefx")
}
