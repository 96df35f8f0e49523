package tests

import (
	"testing"

	"loop.example/g00847/impl"
)

// The tests of promise 10, as far as it tells of the memory of what is handed
// in and handed back.

// roundCalls are of no round, of one and of more, with codes and without.
func roundCalls(c conn) []connCall {
	var calls []connCall
	for path := int64(-1); path <= int64(len(c.Net)); path++ {
		for _, n := range []int64{0, 1, 64} {
			what := shown([]int64{path, n})
			calls = append(calls, connCall{"round " + what, func(c conn) impl.ConnOut { return impl.Round(c, path, n) }})
			for _, many := range []int64{-1, 0, 1, 3} {
				calls = append(calls, connCall{shown(many) + " rounds " + what, func(c conn) impl.ConnOut { return impl.Rounds(c, path, n, many) }})
			}
		}
	}
	return calls
}

func TestRoundMemory(t *testing.T) {
	for _, right := range rightConns() {
		for _, c := range roundCalls(right) {
			memoryIsItsOwn(t, c, right)
		}
		arg := withSpareConn(right)
		impl.Left(arg)
		argumentStays(t, "left", arg, right)
	}
}

func TestRoundOfOneList(t *testing.T) {
	c := connOfOneList()
	same(t, "right", hasConnForm(c), true)
	for _, x := range roundCalls(c) {
		listsArePartedIn(t, x, c)
	}
}

// TestNothingIsKeptOfRounds does each call again behind others of other ones.
func TestNothingIsKeptOfRounds(t *testing.T) {
	for _, c := range rightConns() {
		for _, x := range roundCalls(c) {
			first, left := x.do(c), impl.Left(c)
			for _, other := range rightConns() {
				impl.Rounds(other, 0, 3, 2)
				impl.Round(other, 1, 1)
				impl.Left(other)
			}
			connIs(t, x.what, x.do(c), first)
			same(t, "left", impl.Left(c), left)
		}
	}
}

// TestTwoAnswersShareNothing: also where both are told of the same Conn.
func TestTwoAnswersShareNothing(t *testing.T) {
	for _, c := range rightConns() {
		for _, x := range roundCalls(c) {
			want, one, other := x.do(c), x.do(c), x.do(c)
			for _, spoilOne := range connSpoilers(&one, want) {
				spoilOne()
			}
			connIs(t, x.what, other, want)
		}
	}
}
