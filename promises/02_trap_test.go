package promises

import (
	"errors"
	"testing"

	"corduroy/api"
	"corduroy/trap"
)

func TestP2_1_Throw(t *testing.T) {
	for e := api.OK; e <= api.ErrOp; e++ {
		is(t, "Throw", trap.Try(func() { trap.Throw(e) }), e)
		is(t, "Check of false", trap.Try(func() { trap.Check(false, e) }), e)
		is(t, "Check of true", trap.Try(func() { trap.Check(true, e) }), api.OK)
		is(t, "Must", trap.Try(func() { trap.Must("x", e) }), e)
	}
	is(t, "Throw of a number without a name", trap.Try(func() { trap.Throw(-7) }), api.Errno(-7))
	is(t, "Throw of OK", panics(func() { trap.Throw(api.OK) }), nil)
	is(t, "Check of OK", panics(func() { trap.Check(false, api.OK) }), nil)
	is(t, "Check of true", panics(func() { trap.Check(true, api.ErrTag) }), nil)
	if panics(func() { trap.Throw(api.ErrTag) }) == nil {
		t.Error("Throw does not panic")
	}
	is(t, "Must of OK", trap.Must(5, api.OK), 5)
	is(t, "Must of OK", trap.Must("five", api.OK), "five")
}

func TestP2_2_TryAndGet(t *testing.T) {
	done := false
	is(t, "Try", trap.Try(func() { done = true }), api.OK)
	is(t, "is done", done, true)
	x, e := trap.Get(func() int { return 5 })
	is(t, "Get", x, 5)
	is(t, "Get", e, api.OK)
	x, e = trap.Get(func() int { return trap.Must(5, api.ErrTag) })
	is(t, "Get of what throws", x, 0)
	is(t, "Get of what throws", e, api.ErrTag)
	text, e := trap.Get(func() (s string) {
		s = "half"
		trap.Throw(api.ErrSum)
		return s
	})
	is(t, "Get of what throws", text, "")
	is(t, "Get of what throws", e, api.ErrSum)
	l, e := trap.Get(func() []int { return []int{1, 2} })
	list(t, "Get of a list", l, []int{1, 2})
	is(t, "Get of a list", e, api.OK)
}

func TestP2_2_OtherPanicsGoOn(t *testing.T) {
	other := errors.New("other")
	for _, x := range []any{"other", 7, other, api.ErrShort, api.OK, int(api.ErrShort)} {
		is(t, "Try", panics(func() { trap.Try(func() { panic(x) }) }), x)
		is(t, "Get", panics(func() { trap.Get(func() int { panic(x) }) }), x)
		is(t, "Try within Get", panics(func() { trap.Get(func() int { trap.Try(func() { panic(x) }); return 1 }) }), x)
	}
	var l []int
	if panics(func() { trap.Try(func() { _ = l[len(l)] }) }) == nil {
		t.Error("a panic of the language is caught")
	}
	if panics(func() { trap.Get(func() int { return l[len(l)] }) }) == nil {
		t.Error("a panic of the language is caught")
	}
}

func TestP2_3_Within(t *testing.T) {
	var steps []string
	outer := trap.Try(func() {
		inner := trap.Try(func() {
			trap.Throw(api.ErrShort)
			steps = append(steps, "behind a throw")
		})
		is(t, "the inner one", inner, api.ErrShort)
		steps = append(steps, "goes on")
		_, e := trap.Get(func() int { trap.Check(false, api.ErrForm); steps = append(steps, "behind a check"); return 1 })
		is(t, "the inner one", e, api.ErrForm)
		trap.Must(1, api.ErrLong)
		steps = append(steps, "behind a must")
	})
	is(t, "the outer one", outer, api.ErrLong)
	list(t, "steps", steps, []string{"goes on"})
	is(t, "the outer one of what was caught", trap.Try(func() { trap.Try(func() { trap.Throw(api.ErrEnd) }) }), api.OK)
}

func TestP2_3_ThrownAgain(t *testing.T) {
	e := trap.Try(func() {
		trap.Throw(trap.Try(func() { trap.Throw(api.ErrOver) }))
	})
	is(t, "thrown again", e, api.ErrOver)
	deferred := false
	trap.Try(func() {
		defer func() { deferred = true }()
		trap.Throw(api.ErrOver)
	})
	is(t, "what is deferred is done", deferred, true)
}
