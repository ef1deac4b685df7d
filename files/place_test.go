package files_test

import (
	"testing"

	"bollard/api"
)

func TestRead(t *testing.T) {
	k := made(t, 400, 60)
	k.do(k.f.Create("/a"), k.f.Append("/a", []byte("abcdefgh")))
	k.opens("P11.1", "/a", false, 0, ok)
	for _, r := range []struct {
		n    int
		text string
		want api.Errno
		at   int
	}{
		{0, "", ok, 0},
		{3, "abc", ok, 3},
		{-1, "", arg, 3},
		{least, "", arg, 3},
		{1, "d", ok, 4},
		{0, "", ok, 4},
		{9, "efgh", ok, 8},
		{1, "", ok, 8},
		{most, "", ok, 8},
		{0, "", ok, 8},
		{-1, "", arg, 8},
	} {
		k.reads("P11.2", 0, r.n, r.text, r.want)
		k.tells("P11.2", 0, r.at, ok)
	}
	k.seeks("P11.2", 0, 2, ok)
	k.reads("P11.2", 0, most, "cdefgh", ok)
	k.seeks("P11.2", 0, 9, ok)
	k.reads("P11.2", 0, 1, "", ok)
	k.tells("P11.2", 0, 9, ok)
}

func TestReadOfMuch(t *testing.T) {
	k := made(t, 800, 60)
	text := long(api.MaxFile)
	k.opens("P11.1", "/a", true, 0, ok)
	for at := 0; at < len(text); at += 6000 {
		k.writes("P11.2", 0, text[at:min(at+6000, len(text))], ok)
	}
	k.tells("P11.2", 0, len(text), ok)
	k.seeks("P11.2", 0, 0, ok)
	for at := 0; at < len(text); at += 777 {
		k.tells("P11.2", 0, at, ok)
		k.reads("P11.2", 0, 777, text[at:min(at+777, len(text))], ok)
	}
	k.tells("P11.2", 0, len(text), ok)
}

func TestWrite(t *testing.T) {
	k := made(t, 400, 60)
	k.opens("P11.1", "/a", true, 0, ok)
	for _, r := range []struct {
		seek int
		text string
		want api.Errno
		at   int
		all  string
	}{
		{0, "", ok, 0, ""},
		{0, "abc", ok, 3, "abc"},
		{3, "", ok, 3, "abc"},
		{3, "def", ok, 6, "abcdef"},
		{1, "XY", ok, 3, "aXYdef"},
		{5, "123", ok, 8, "aXYde123"},
		{9, "z", arg, 9, "aXYde123"},
		{9, "", arg, 9, "aXYde123"},
		{most, "z", arg, most, "aXYde123"},
		{most, "", arg, most, "aXYde123"},
		{8, "!", ok, 9, "aXYde123!"},
		{0, "", ok, 0, "aXYde123!"},
	} {
		k.seeks("P11.2", 0, r.seek, ok)
		k.writes("P11.2", 0, r.text, r.want)
		k.tells("P11.2", 0, r.at, ok)
		k.holds("P11.2", "/a", r.all)
	}
}

func TestWriteOfTooMuch(t *testing.T) {
	k := made(t, 800, 60)
	k.opens("P11.1", "/a", true, 0, ok)
	k.writes("P11.3", 0, long(api.MaxFile+1), big)
	k.tells("P11.3", 0, 0, ok)
	for size := 6000; size < api.MaxFile-3; size += 6000 {
		k.do(k.f.Truncate("/a", size))
	}
	k.do(k.f.Truncate("/a", api.MaxFile-3))
	k.seeks("P11.2", 0, api.MaxFile-3, ok)
	k.writes("P11.2", 0, "1234", big)
	k.appends("P11.2", 0, "1234", big)
	k.pwrites("P11.2", 0, api.MaxFile-4, "12345", big)
	k.tells("P11.3", 0, api.MaxFile-3, ok)
	k.writes("P11.2", 0, "123", ok)
	k.tells("P11.2", 0, api.MaxFile, ok)
	k.writes("P11.2", 0, "4", big)
	k.appends("P11.2", 0, "4", big)
	k.writes("P11.2", 0, "", ok)
	k.tells("P11.3", 0, api.MaxFile, ok)
	k.reads("P11.2", 0, 1, "", ok)
	k.preads("P11.2", 0, api.MaxFile-3, 9, "123", ok)
}

func TestWriteWithoutRoom(t *testing.T) {
	k := made(t, 300, 30)
	k.opens("P11.1", "/a", true, 0, ok)
	left, _ := k.f.Free()
	all := long((left - 1) * api.Block) // one of them is the block of numbers
	k.writes("P11.3", 0, all+"x", full)
	k.tells("P11.3", 0, 0, ok)
	k.holds("P11.3", "/a", "")
	k.writes("P11.2", 0, all, ok)
	k.writes("P11.2", 0, "x", full)
	k.appends("P11.2", 0, "x", full)
	k.pwrites("P11.2", 0, len(all)-1, "xy", full)
	k.tells("P11.3", 0, len(all), ok)
	k.holds("P11.3", "/a", all)
	k.seeks("P11.2", 0, len(all)-2, ok)
	k.writes("P11.2", 0, "!!", ok)
	k.tells("P11.2", 0, len(all), ok)
	k.holds("P11.2", "/a", all[:len(all)-2]+"!!")
}

func TestSeek(t *testing.T) {
	k := made(t, 400, 60)
	k.do(k.f.Create("/a"), k.f.Append("/a", []byte("abc")))
	k.opens("P11.1", "/a", false, 0, ok)
	for _, r := range []struct {
		at   int
		want api.Errno
		told int
		text string
	}{
		{-1, arg, 0, "abc"},
		{least, arg, 0, "abc"},
		{0, ok, 0, "abc"},
		{1, ok, 1, "bc"},
		{-1, arg, 1, "bc"},
		{3, ok, 3, ""},
		{4, ok, 4, ""},
		{api.MaxFile, ok, api.MaxFile, ""},
		{api.MaxFile + 1, ok, api.MaxFile + 1, ""},
		{1 << 40, ok, 1 << 40, ""},
		{most, ok, most, ""},
		{-1, arg, most, ""},
		{2, ok, 2, "c"},
	} {
		k.seeks("P11.2", 0, r.at, r.want)
		k.tells("P11.2", 0, r.told, ok)
		k.reads("P11.2", 0, most, r.text, ok)
		k.tells("P11.2", 0, r.told+len(r.text), ok)
		k.seeks("P11.2", 0, r.told, ok)
	}
}

func TestPlacesStay(t *testing.T) {
	k := made(t, 400, 60)
	k.opens("P11.1", "/a", true, 0, ok)
	k.writes("P11.2", 0, "abcdef", ok)
	for _, at := range []int{2, 0, 6, 50, most} {
		k.seeks("P11.2", 0, at, ok)
		k.preads("P11.2", 0, 0, 2, "ab", ok)
		k.preads("P11.2", 0, 4, 1, "e", ok)
		k.preads("P11.2", 0, 3, 0, "", ok)
		k.preads("P11.2", 0, most, most, "", ok)
		k.preads("P11.2", 0, -1, 1, "", arg)
		k.preads("P11.2", 0, 0, -1, "", arg)
		k.pwrites("P11.2", 0, 1, "B", ok)
		k.pwrites("P11.2", 0, -1, "B", arg)
		k.pwrites("P11.2", 0, -1, "", arg)
		k.pwrites("P11.2", 0, 999, "B", arg)
		k.pwrites("P11.2", 0, most, "B", arg)
		k.pwrites("P11.2", 0, 1, "b", ok)
		k.appends("P11.2", 0, "", ok)
		k.appends("P11.2", 0, "+", ok)
		k.tells("P11.2", 0, at, ok)
	}
	k.holds("P11.2", "/a", "abcdef+++++")
	k.pwrites("P11.2", 0, 11, "!", ok)
	k.pwrites("P11.2", 0, 12, "", ok)
	k.holds("P11.2", "/a", "abcdef+++++!")
	k.tells("P11.2", 0, most, ok)
}

func TestPlacesOfOneFile(t *testing.T) {
	k := made(t, 400, 60)
	k.opens("P11.1", "/a", true, 0, ok)
	k.opens("P11.1", "/a", true, 1, ok)
	k.opens("P11.1", "/a", false, 2, ok)
	k.writes("P11.2", 0, "abcdef", ok)
	k.reads("P11.4", 1, 2, "ab", ok)
	k.tells("P11.2", 0, 6, ok)
	k.tells("P11.2", 1, 2, ok)
	k.tells("P11.2", 2, 0, ok)
	k.writes("P11.2", 1, "CD", ok)
	k.reads("P11.4", 2, 9, "abCDef", ok)
	k.appends("P11.2", 2, "gh", ok)
	k.reads("P11.4", 0, 9, "gh", ok)
	k.reads("P11.4", 1, 9, "efgh", ok)
	k.closes("P11.1", 0, ok)
	k.tells("P11.1", 1, 8, ok)
	k.tells("P11.1", 2, 6, ok)
	k.pwrites("P11.2", 2, 0, "A", ok)
	k.preads("P11.4", 1, 0, 1, "A", ok)
	k.holds("P11.4", "/a", "AbCDefgh")
}

func TestMemory(t *testing.T) {
	k := made(t, 400, 60)
	k.opens("P11.1", "/a", true, 0, ok)
	spare := []byte("abcXYZ")
	for _, do := range []func(b []byte) api.Errno{
		func(b []byte) api.Errno { return k.x.Write(0, b) },
		func(b []byte) api.Errno { return k.x.Pwrite(0, 3, b) },
		func(b []byte) api.Errno { return k.x.Append(0, b) },
	} {
		b := spare[:3]
		k.do(do(b))
		if string(spare) != "abcXYZ" {
			t.Fatalf("P11.2: what was handed in is %q by now", spare)
		}
		copy(b, "...")
		k.preads("P11.4", 0, 0, 3, "abc", ok)
		copy(b, "abc")
	}
	copy(spare, "------")
	k.holds("P11.4", "/a", "abcabcabc")
	k.seeks("P11.2", 0, 0, ok)
	one, _ := k.x.Read(0, 9)
	two, _ := k.x.Pread(0, 0, 9)
	copy(one[:cap(one)], "+++++++++")
	if string(two) != "abcabcabc" {
		t.Fatalf("P11.4: what Pread answered is %q by now", two)
	}
	copy(two[:cap(two)], "*********")
	k.holds("P11.4", "/a", "abcabcabc")
	k.preads("P11.4", 0, 0, 9, "abcabcabc", ok)
}
