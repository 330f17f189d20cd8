// Package promises tests the document's promises, layer by layer, by the exported calls alone.
package promises

import (
	"slices"
	"testing"

	"corduroy/api"
	"corduroy/trap"
)

type number interface {
	~uint8 | ~uint16 | ~uint32 | ~uint64 | ~int | ~int64
}

func is[T comparable](t *testing.T, what string, got, want T) {
	t.Helper()
	if got != want {
		t.Errorf("%s: %v, and not %v", what, got, want)
	}
}

func list[T comparable](t *testing.T, what string, got, want []T) {
	t.Helper()
	if !slices.Equal(got, want) {
		t.Errorf("%s: %v, and not %v", what, few(got), few(want))
	}
}

// few keeps a failed test's text readable.
func few[T any](l []T) []T { return l[:min(len(l), 64)] }

// fails: the error, and beside it nothing (R2).
func fails[T comparable](t *testing.T, what string, got []T, e, want api.Errno) {
	t.Helper()
	is(t, what, e, want)
	if e != api.OK && len(got) > 0 {
		t.Errorf("%s: %v beside error %d", what, few(got), e)
	}
}

// thrown is the error that is thrown, which must be one of layer 2.
func thrown(t *testing.T, what string, do func(), want api.Errno) {
	t.Helper()
	is(t, what, trap.Try(do), want)
}

// panics is what a call panics with, nil if it does not.
func panics(do func()) (r any) {
	defer func() { r = recover() }()
	do()
	return nil
}

// dice gives numbers that look as by chance, the same ones in each run.
type dice uint64

func (d *dice) next() uint64 {
	*d += 0x9e3779b97f4a7c15
	x := uint64(*d)
	x = (x ^ x>>30) * 0xbf58476d1ce4e5b9
	x = (x ^ x>>27) * 0x94d049bb133111eb
	return x ^ x>>31
}

func (d *dice) below(n int) int { return int(d.next() % uint64(n)) }

func (d *dice) bytes(n int) []byte {
	b := make([]byte, n)
	for i := range b {
		b[i] = byte(d.next())
	}
	return b
}

// turn changes all of a list, also what lies behind its end.
func turn[T number](l []T) {
	l = l[:cap(l)]
	for i := range l {
		l[i] = ^l[i]
	}
}

// apart tests R4 of a call that makes a list of a list: neither changed nor kept, nothing shared.
func apart[T, U number](t *testing.T, what string, in []T, call func([]T) []U) {
	t.Helper()
	room := slices.Concat(in, make([]T, 40))
	given := room[:len(in)]
	first := call(given)
	want := slices.Clone(first)
	second := call(given)
	list(t, what+": is not changed", room[:len(in)], in)
	list(t, what+": what is behind it is not changed", room[len(in):], make([]T, 40))
	list(t, what+": the same again", second, want)
	turn(room)
	list(t, what+": shares nothing with what was handed in", first, want)
	turn(second)
	list(t, what+": shares nothing with another answer", first, want)
	turn(first)
	list(t, what+": what was handed in shares nothing", room[:len(in)], turned(in))
}

func turned[T number](l []T) []T {
	l = slices.Clone(l)
	turn(l)
	return l
}
