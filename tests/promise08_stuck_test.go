package tests

import (
	"testing"

	"loop.example/g00847/impl"
)

// The tests of promise 8, as far as it tells of one that is stuck: something
// is left to send, and nothing would ever be told.

func TestStuck(t *testing.T) {
	for _, c := range []struct {
		what  string
		stuck bool
		turn  func(c *conn)
	}{
		{"as it is", true, func(c *conn) {}},
		{"closed", true, func(c *conn) { c.Snd.Open = false }},
		{"Text of one byte", true, func(c *conn) { c.Snd.Text = "a" }},
		{"at MaxTime", true, func(c *conn) { c.Now = most }},
		{"nothing to be sent at the edge", true, func(c *conn) { c.Snd.Edge, c.Rcv.Edge = 0, 0 }},
		{"all was sent", true, func(c *conn) { c.Snd.Next = 3 }},
		{"Text empty", false, func(c *conn) { c.Snd.Text = "" }},
		{"Text empty, closed", false, func(c *conn) { c.Snd.Text, c.Snd.Open = "", false }},
		{"something flies There", false, func(c *conn) { c.Net[1].There = []string{"x"} }},
		{"something flies Back", false, func(c *conn) { c.Net[0].Back = []string{"x"} }},
		{"an Out that is not due", false, func(c *conn) { c.Snd.Lines[1].Out = []sent{{Sub: 1, At: 30, Tries: 1}} }},
		{"an Out that is due", false, func(c *conn) { c.Snd.Lines[0].Out = []sent{{Sub: 1, At: 22, Tries: 1}} }},
		{"a tick tells on the first line", false, func(c *conn) { c.Snd.Lines[0].Next = most - 1 }},
		{"a tick tells on the last line", false, func(c *conn) { c.Snd.Lines[1].Next = most - 1 }},
		{"a tick tells at the edge", false, func(c *conn) { c.Snd.Edge, c.Rcv.Edge, c.Snd.Lines[1].Next = 0, 0, 0 }},
		{"not right: Now", false, func(c *conn) { c.Now = -1 }},
		{"not right: Mss", false, func(c *conn) { c.Snd.Mss = 17 }},
		{"not right: Rcv", false, func(c *conn) { c.Rcv.Size = 0 }},
		{"not right: a Way less", false, func(c *conn) { c.Net = c.Net[:1] }},
		{"not right: no Way", false, func(c *conn) { c.Net = nil }},
		{"not right: Edge", false, func(c *conn) { c.Snd.Edge = 6 }},
		{"not right: Base", false, func(c *conn) { c.Snd.Base, c.Snd.Next = 1, 1 }},
	} {
		x := connTurned(still(), c.turn)
		before := connCopy(x)
		same(t, c.what, impl.Stuck(x), c.stuck)
		same(t, c.what+", again", impl.Stuck(x), c.stuck)
		same(t, c.what+", by the model", stuckTold(x), c.stuck)
		same(t, c.what+", the argument stays", sameConn(x, before), true)
	}
}

// stuckTold is what the document says of one, worked out on what the calls of
// the earlier chapters are said to tell.
func stuckTold(c conn) bool {
	if !hasConnForm(c) || len(c.Snd.Text) == 0 || len(tickTold(c.Snd, c.Now).Segs) > 0 {
		return false
	}
	for i := range c.Net {
		if len(c.Net[i].There)+len(c.Net[i].Back)+len(c.Snd.Lines[i].Out) > 0 {
			return false
		}
	}
	return true
}

// TestStuckAsTold looks at each with one field turned, too.
func TestStuckAsTold(t *testing.T) {
	stuck := 0
	for _, c := range rightConns() {
		same(t, "stuck", impl.Stuck(c), stuckTold(c))
		for _, x := range connsWithOneFieldTurned(c) {
			same(t, "stuck, one field turned", impl.Stuck(x), stuckTold(x))
			if stuckTold(x) {
				stuck++
			}
		}
	}
	if stuck < 30 {
		t.Errorf("only %d of them are stuck", stuck)
	}
}
