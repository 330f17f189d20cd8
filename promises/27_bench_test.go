package promises

import (
	"fmt"
	"math"
	"slices"
	"strings"
	"testing"

	"corduroy/bench"
	"corduroy/column"
	"corduroy/reader"
	"corduroy/seek"
)

// tells tests what lines tell a new bench, each in one line: a line, and "=>", and what it tells; lines that are told are parted by "/".
func tells(t *testing.T, script string) {
	t.Helper()
	b := bench.New()
	var lines, all []string
	for step := range strings.Lines(script) {
		line, want, ok := strings.Cut(strings.Trim(step, "\t\n"), " => ")
		if !ok {
			continue
		}
		want = strings.ReplaceAll(want, " / ", "\n") + "\n"
		is(t, "Line "+line, b.Line(line), want)
		lines, all = append(lines, line), append(all, want)
	}
	is(t, "Run", bench.Run(strings.Join(lines, "\n")), strings.Join(all, ""))
}

func TestP27_1_Examples(t *testing.T) {
	tells(t, `
	push 5 5 7 => ok
	get 2 => value 7
	size => size 3 30
	get 3 => error 4
	slice 0 3 => values 5 5 7
	slice 1 2 => values 5
	slice 3 3 => values
	slice 2 1 => error 4
	slice 0 4 => error 4
	check => fine 3
	find 7 => at 2
	find 5 => at 0
	find 6 => none
	count 5 5 => count 2 1
	count 5 7 => count 3 0
	count -9 4 => count 0 0
	count 7 5 => count 0 0
	tags => zvar 3 4
	close => error 1
	feed 29 => told 3
	close => error 1
	feed 1 => told 0
	close => ok
	feed 5 => told 0
	close => ok
	clear => ok
	size => size 0 16
	check => fine 0
	get 0 => error 4
	slice 0 0 => values
	find 0 => none
	count 0 9 => count 0 0
	tags => none
	close => error 1
	feed 999999999 => told 0
	close => ok`)
}

func TestP27_1_PushAndRun(t *testing.T) {
	tells(t, `
	push 9223372036854775807 -9223372036854775808 0 -1 => ok
	slice 0 4 => values 9223372036854775807 -9223372036854775808 0 -1
	push 3 => ok
	size => size 5 50
	run -7 1000 => ok
	slice 3 7 => values -1 3 -7 -7
	get 1004 => value -7
	get 1005 => error 4
	run 4 0 => ok
	run 8 2000 => ok
	check => fine 3005
	run 1 995 => ok
	check => fine 4000
	push 1 => error 13
	run 1 1 => error 13
	run 1 0 => ok
	check => fine 4000
	clear => ok
	run 1 2001 => error 13
	run 1 2000 => ok
	run 1 2000 => ok
	push 2 3 => error 13
	check => fine 4000`)
	one := strings.TrimSpace(strings.Repeat("5 ", 64))
	b := bench.New()
	is(t, "push of 64", b.Line("push "+one), "ok\n")
	is(t, "push of 65", b.Line("push "+one+" 5"), "error 13\n")
	is(t, "push of 65, the last one wrong", b.Line("push "+one+" x"), "error 13\n")
	is(t, "check", b.Line("check"), "fine 64\n")
}

func TestP27_1_Flip(t *testing.T) {
	tells(t, `
	push 5 => ok
	size => size 1 28
	flip 11 0 => ok
	check => error 8
	flip 11 0 => ok
	check => fine 1
	flip 0 0 => ok
	check => error 3
	get 0 => error 3
	slice 9 0 => error 3
	find 5 => error 3
	count 9 0 => error 3
	feed 1 => told 0 error 3
	feed 4 => told 0 error 3
	close => error 3
	tags => zvar 1 2
	flip 0 0 => ok
	close => error 3
	check => fine 1
	flip 27 7 => ok
	check => error 8
	flip 27 8 => error 4
	flip 28 0 => error 4
	flip 999999999 0 => error 4
	flip 0 999999999 => error 4
	flip -1 0 => error 13
	check => error 8
	push 6 => ok
	check => fine 2
	feed 100 => told 2
	close => ok`)
}

func TestP27_1_FlipOfALoad(t *testing.T) {
	tells(t, `
	push 5 => ok
	flip 10 1 => ok
	check => error 8
	get 0 => error 8
	slice 0 1 => error 8
	slice 0 0 => values
	get 1 => error 4
	count 0 9 => error 8
	find 5 => error 8
	feed 15 => told 0
	close => error 1
	feed 1 => told 0 error 8
	feed 0 => told 0 error 8
	close => error 8
	run 5 0 => ok
	close => error 1
	check => fine 1
	feed 28 => told 1
	close => ok`)
}

func TestP27_1_Feed(t *testing.T) {
	l := slices.Concat(slices.Repeat([]int64{9}, 1030), []int64{1, 2})
	b := column.Encode(l...)
	index, _ := seek.Index(b)
	first := index[0].At + index[0].Size
	tells(t, fmt.Sprintf(`
	run 9 1030 => ok
	push 1 2 => ok
	size => size 1032 %d
	tags => hybrid 1024 %d / %s
	feed 3 => told 0
	feed 0 => told 0
	feed %d => told 0
	feed 1 => told 1024
	close => error 1
	feed 1000000 => told 8
	close => ok
	count 9 9 => count 1030 1
	find 2 => at 1031
	flip %d 0 => ok
	get 1023 => value 9
	get 1024 => error 8
	slice 1000 1003 => values 9 9 9
	slice 1000 1025 => error 8
	find 9 => error 8
	clear => ok
	run 9 1030 => ok
	flip %d 0 => ok
	feed 100000 => told 1024 error 8
	feed 1 => told 0 error 8`, len(b), index[0].Size-10, slowTag(l[1024:]), first-4, index[1].At+7, index[1].At+7))
}

// slowTag is what tags tells of a block.
func slowTag(block []int64) string {
	own := slowOwn(block)
	return fmt.Sprint(names[own[0]], " ", len(block), " ", len(own))
}

func TestP27_1_KindAndBy(t *testing.T) {
	bits := func(f float64) int64 { return int64(math.Float64bits(f)) }
	tells(t, fmt.Sprintf(`
	kind 0 => zero whole 0
	kind -9223372036854775808 => minus zero
	kind 1 => tiny
	kind -9223372036854775807 => minus tiny
	kind %d => plus whole 5
	kind %d => minus whole -9007199254740992
	kind %d => plus
	kind %d => minus
	kind %d => inf
	kind %d => minus inf
	kind -1 => nan
	kind 9223372036854775807 => nan
	by %d 2 => value 25
	by %d 1 => none
	by %d 1 => value -15
	by %d 18 => none
	by 0 18 => value 0
	by 0 19 => none
	by 0 999999999 => none
	by -1 0 => none
	by -9223372036854775808 0 => none
	size => size 0 16`, bits(5), bits(-1<<53), bits(0.5), bits(-1<<54), bits(inf), bits(-inf), bits(0.25), bits(0.25), bits(-1.5), bits(5)))
}

func TestP27_1_Tags(t *testing.T) {
	d := dice(37)
	b := bench.New()
	var l []int64
	for range 60 {
		var line strings.Builder
		line.WriteString("push")
		for range 1 + d.below(64) {
			v := int64(d.next() >> d.below(64))
			l = append(l, v)
			line.WriteString(" " + fmt.Sprint(v))
		}
		is(t, "push", b.Line(line.String()), "ok\n")
	}
	want := ""
	for block := range slices.Chunk(l, 1024) {
		want += slowTag(block) + "\n"
	}
	is(t, "tags", b.Line("tags"), want)
	is(t, "size", b.Line("size"), fmt.Sprintf("size %d %d\n", len(l), len(column.Encode(l...))))
	r := reader.New()
	got, _ := r.Feed(column.Encode(l...))
	is(t, "feed", b.Line("feed 999999"), fmt.Sprintf("told %d\n", len(got)))
}

func TestP27_1_NoLines(t *testing.T) {
	b := bench.New()
	b.Line("push 5 6 7")
	b.Line("flip 10 0")
	is(t, "a line without any byte", b.Line(""), "")
	for _, line := range []string{
		" ", "  ", " size", "size ", "push  5", "push 5 ", "Size", "pushed", "push5", "\n", "size\n", "size\r", "\tsize", "x", "nothing at all", "error", "slice  1 2",
		"push", "run", "run 5", "run 5 1 1", "clear 1", "flip", "flip 1", "flip 1 2 3", "feed", "feed 1 2", "close 1", "size 1", "check 1", "get", "get 1 2", "slice", "slice 1", "slice 1 2 3", "count", "count 1", "count 1 2 3", "find", "find 1 2", "tags 1", "kind", "kind 1 2", "by", "by 1", "by 1 2 3",
		"push x", "push 5 x", "push +5", "push 05", "push -0", "push -05", "push 00", "push -", "push --5", "push 5-", "push 1.5", "push 0x5", "push 1_000", "push 1e3", "push ５", "push 9223372036854775808", "push -9223372036854775809", "push 99999999999999999999", "push 00000000000000000001", "push 5\n", "push 5\n6", "push 5\t6",
		"run x 1", "run 1 x", "run 1 -1", "run 1 01", "run 1 2001", "run 1 1000000000", "run 1 +1", "run 9223372036854775808 1",
		"flip x 0", "flip 0 x", "flip -1 0", "flip 0 -1", "flip 00 0", "flip 1000000000 0", "flip 0 1000000000", "feed -1", "feed x", "feed 1000000000", "feed 01", "get -1", "get x", "get 1000000000", "get -0", "slice -1 0", "slice 0 -1", "slice x 0", "slice 0 1000000000", "count x 1", "count 1 x", "count -0 1", "count 1 9223372036854775808", "find x", "find -0", "kind x", "kind 9223372036854775808", "by x 1", "by 1 x", "by 1 -1", "by 1 1000000000",
	} {
		is(t, fmt.Sprintf("Line %q", line), b.Line(line), "error 13\n")
	}
	is(t, "nothing happened", b.Line("size"), "size 3 30\n")
	is(t, "nothing happened", b.Line("check"), "error 8\n")
	b.Line("flip 10 0")
	is(t, "nothing happened", b.Line("feed 100"), "told 3\n")
	is(t, "nothing happened", b.Line("slice 0 3"), "values 5 6 7\n")
}

func TestP27_1_Run(t *testing.T) {
	is(t, "Run of nothing", bench.Run(""), "")
	is(t, "Run of empty lines", bench.Run("\n\n"), "")
	is(t, "Run", bench.Run("push 5 5 7\nget 2\nsize"), "ok\nvalue 7\nsize 3 30\n")
	is(t, "Run", bench.Run("push 5 5 7\n\nget 2\nsize\n"), "ok\nvalue 7\nsize 3 30\n")
	is(t, "Run", bench.Run("size\r\nsize"), "error 13\nsize 0 16\n")
	is(t, "a new bench", bench.Run("size"), "size 0 16\n")
	one, two := bench.New(), bench.New()
	one.Line("push 5")
	is(t, "another bench", two.Line("size"), "size 0 16\n")
}

func TestP27_2_WhatFollows(t *testing.T) {
	d := dice(38)
	some := []string{"push 5 -6 7", "run 9 1000", "clear", "flip 9 3", "flip 4 1", "feed 7", "feed 500", "close", "size", "check", "get 1", "slice 0 3", "count 0 9", "find 7", "tags", "kind 5", "by 5 1", "", "x", "push", "run 1 2001", "flip 0 9", " "}
	for range 100 {
		var first, second []string
		for range d.below(12) {
			first = append(first, some[d.below(len(some))])
			second = append(second, some[d.below(len(some))])
		}
		one, both := strings.Join(first, "\n"), strings.Join(append(slices.Clone(first), second...), "\n")
		if len(first) == 0 {
			continue
		}
		is(t, "what the first one tells, and more", strings.HasPrefix(bench.Run(both), bench.Run(one)), true)
		right := slices.DeleteFunc(slices.Clone(first), func(line string) bool { return bench.Run(line) == "error 13\n" })
		is(t, "lines that are wrong change nothing", strings.ReplaceAll(bench.Run(one), "error 13\n", ""), strings.ReplaceAll(bench.Run(strings.Join(right, "\n")), "error 13\n", ""))
	}
}
