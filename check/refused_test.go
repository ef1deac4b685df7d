package check_test

import (
	"fmt"
	"slices"
	"strings"
	"testing"

	"bollard/api"
)

// news are batches that a stocked Log does not know, and all of which are right.
func news() []api.Batch {
	return []api.Batch{bat(12, 3, 9, 0, rec("n", "12", 1), rec("n", "13", 1)), bat(15, 2, 7, 2, rec("n", "15", 1)), bat(17, 1, 0, 0, bare("17", 1))}
}

// refusals are fetches that a stocked Log refuses, in which all else is new and right.
func refusals() map[string]fetch {
	unlike, again := bat(8, 1, 0, 0, rec("k", "unlike", 8)), bat(11, 1, 7, 0, rec("n", "11", 1))
	return map[string]fetch{
		"1, Start fell":               told(2, 30, news()...),
		"1, Next fell":                told(5, 9),
		"1, Start is above Next":      toldFrom(0, 31, 30, news()...),
		"2, the first is below from":  toldFrom(12, 5, 30, slices.Concat([]api.Batch{at(10, 2, "n")}, news())...),
		"2, the last is above Next":   told(5, 30, append(news(), at(30, 1, "n"))...),
		"2, the last falls":           told(5, 30, append(news(), at(11, 1, "n"))...),
		"2, the last overlaps":        told(5, 30, append(news(), bat(19, 5, 9, 1), at(20, 1, "n"))...),
		"2, the first is below Start": toldFrom(3, 11, 30, slices.Concat([]api.Batch{at(10, 1, "n")}, news())...),
		"3, the first":                told(5, 30, slices.Concat([]api.Batch{unlike}, news())...),
		"3, the last":                 told(5, 30, append(news(), bat(20, 1, 0, 0, rec("n", "20", 1)), api.Batch{Base: 22, Span: 1, Records: []api.Record{placed(rec("k", "unlike", 8), -14)}})...),
		"3, within itself":            told(5, 30, append(news(), api.Batch{Base: 20, Span: 1, Records: []api.Record{placed(rec("k", "unlike", 8), -5)}})...),
		"4, the first":                told(5, 30, slices.Concat([]api.Batch{again}, news())...),
		"4, the last":                 told(5, 30, append(news(), bat(20, 1, 7, 1, rec("n", "20", 1)))...),
		"4, within itself":            told(5, 30, append(news(), bat(20, 1, 9, 0, rec("n", "20", 1)))...),
		"3 and 4":                     told(5, 30, append(news(), bat(18, 1, 7, 1), api.Batch{Base: 20, Span: 1, Records: []api.Record{placed(rec("k", "unlike", 8), -15)}})...),
	}
}

// TestRefused: behind a refused fetch all is told as if it had not been.
func TestRefused(t *testing.T) {
	for what, f := range refusals() {
		k := stocked(t)
		want := int(what[0] - '0')
		for range 3 {
			if got := k.sees("P24.1", f); got != want {
				t.Errorf("P24.1: %s: Saw(%s) = %d, want %d", what, short(f), got, want)
			}
		}
		k.saw("P24.1", 0, told(3, 10)) // neither Start nor Next rose
		k.saw("P24.1", 1, told(3, 9))
		k.saw("P24.1", 1, told(2, 10))
		k.saw("P24.1", 3, told(3, 10, bat(8, 1, 0, 0, rec("k", "other", 8)))) // what was known is
		k.saw("P24.1", 4, told(3, 10, bat(6, 1, 8, 0)))
		k.saw("P24.1", 0, toldFrom(10, 3, 31, // the records are not known, nor the producers' numbers
			bat(10, 4, 0, 0, bare("10", 1), bare("11", 1), bare("12", 1), bare("13", 1)),
			bat(14, 3, 9, 0, bare("14", 1), bare("15", 1)),
			bat(17, 1, 7, 2, bare("x", 1)),
			bat(20, 1, 9, 1, bare("y", 1)),
			bat(30, 1, 0, 0, bare("z", 1))))
		k.sees("P24.1", f)
		k.saw("P24.1", 3, told(3, 31, news()...))
	}
}

// TestRefusedAtFirst: so of the first fetch of a partition, of a Log that knows nothing.
func TestRefusedAtFirst(t *testing.T) {
	for want, f := range map[int]fetch{
		1: told(9, 8, bat(9, 1, 7, 0, rec("k", "v", 1))),
		2: told(5, 9, bat(5, 1, 7, 0, rec("k", "v", 1)), at(9, 1, "v")),
		3: told(5, 9, bat(5, 1, 7, 0, rec("k", "v", 1)), api.Batch{Base: 6, Span: 1, Records: []api.Record{placed(rec("k", "w", 1), -1)}}),
		4: told(5, 9, bat(5, 1, 7, 0, rec("k", "v", 1)), bat(6, 1, 7, 0)),
	} {
		k := made(t)
		k.saw("P24.1", want, f)
		k.saw("P24.1", 0, told(0, 2))
		k.saw("P24.1", 0, told(0, 9, bat(3, 3, 7, 0, bare("3", 1), bare("4", 1), bare("5", 1))))
		k.saw("P24.1", 1, told(0, 8))
	}
}

// where is a fetch of another partition.
func (f fetch) where(topic string, part int) fetch {
	f.topic, f.part = topic, part
	return f
}

// TestOtherPartitions: those that differ in the topic alone, or in the part alone, have nothing in common.
func TestOtherPartitions(t *testing.T) {
	type place struct {
		topic string
		part  int
	}
	places := []place{{"a", 1}, {"a", -1}, {"a", most}, {"a", least}, {"a", 1 << 32}, {"a", 1 << 8}}
	for _, topic := range []string{"", "A", "b", "aa", "a ", " a", "a\x00", "\x00a", "á", "a/0", "a-0", "a0", "0", "\xff", strings.Repeat("a", 100000)} {
		places = append(places, place{topic, 0}, place{topic, 1})
	}
	for i, p := range places {
		k := stocked(t)
		f := told(0, 4, bat(0, 4, 7, 0, bare("0", 1), bare("1", 1), bare("2", 1), bare("3", 1))).where(p.topic, p.part)
		k.saw("P24.1", 0, f)
		k.saw("P24.1", 0, f.where("c", i))
		k.saw("P24.1", 1, told(0, 3).where(p.topic, p.part))
		k.saw("P24.1", 3, told(0, 4, at(3, 1, "4")).where(p.topic, p.part))
		k.saw("P24.1", 4, told(0, 4, bat(1, 1, 7, 0)).where(p.topic, p.part))
		k.saw("P24.1", 1, told(0, 4))
		k.saw("P24.1", 3, told(3, 10, at(3, 1, "4")))
		k.saw("P24.1", 4, told(3, 10, bat(3, 1, 7, 0)))
	}
	k := made(t)
	for i, p := range places {
		k.saw("P24.1", 0, told(i, 2*i+1, bat(2*i, 1, 7, 0, bare(fmt.Sprint(i), 1))).where(p.topic, p.part))
	}
	for i, p := range places {
		k.saw("P24.1", 3, told(i, 2*i+1, bat(2*i, 1, 7, 0, bare(fmt.Sprint(i+1), 1))).where(p.topic, p.part))
		k.saw("P24.1", 1, told(i, 2*i).where(p.topic, p.part))
	}
}

// TestTwoLogs: two Logs by turns have nothing in common.
func TestTwoLogs(t *testing.T) {
	for what, f := range refusals() {
		one, other := stocked(t), made(t)
		other.sees("P24.1", f)
		one.saw("P24.1", int(what[0]-'0'), f)
		other.saw("P24.1", 0, told(5, 50, bat(40, 1, 5, 3, bare("40", 1))))
		one.saw("P24.1", 0, told(3, 10))
		one.saw("P24.1", 0, told(3, 50, bat(40, 1, 0, 0, bare("41", 1)), bat(45, 1, 5, 3)))
		other.saw("P24.1", 3, told(5, 50, bat(40, 1, 0, 0, bare("41", 1))))
		other.saw("P24.1", 4, told(5, 50, bat(45, 1, 5, 3)))
		other.saw("P24.1", 1, told(3, 10))
		other.saw("P24.1", 0, told(5, 50, bat(40, 1, 5, 3, bare("40", 1))))
		one.saw("P24.1", 0, told(3, 50, bat(40, 1, 0, 0, bare("41", 1)), bat(45, 1, 5, 3)))
	}
}
