package tests

import (
	"math"
	"math/rand"
	"slices"
	"strconv"
	"strings"
	"testing"

	"loop.example/g00847/impl"
)

// The tests of promise 5, as far as it tells of the ways: what flies is what
// was sent, once for each time, or is lost; what is taken flies no more.

type net = []impl.Way

const mostThing = 100

// call is one of the calls that change a net, with all it is handed beside it.
type call struct {
	name  string
	path  int64
	back  bool
	at    int64
	by    int64
	bytes string
}

func (c call) do(n net) impl.NetOut {
	switch c.name {
	case "send":
		return impl.NetSend(n, c.path, c.back, c.bytes)
	case "take":
		return impl.NetTake(n, c.path, c.back, c.at)
	case "twice":
		return impl.NetTwice(n, c.path, c.back, c.at)
	}
	return impl.NetBend(n, c.path, c.back, c.at, c.by)
}

func hasNetForm(n net) bool {
	wrong := func(thing string) bool { return thing == "" || len(thing) > mostThing }
	for _, w := range n {
		if len(w.There) > impl.MaxFly || len(w.Back) > impl.MaxFly || slices.ContainsFunc(w.There, wrong) || slices.ContainsFunc(w.Back, wrong) {
			return false
		}
	}
	return len(n) >= 1 && len(n) <= 4
}

// told is what the document says that the call tells, worked out on plain lists.
func (c call) told(n net) impl.NetOut {
	if len(n) > impl.MaxList || c.name == "send" && len(c.bytes) > impl.MaxBytes {
		return impl.NetOut{Code: impl.ErrSize}
	}
	if !hasNetForm(n) {
		return impl.NetOut{Code: impl.ErrForm}
	}
	if c.path < 0 || c.path >= int64(len(n)) {
		return impl.NetOut{Code: impl.ErrNone}
	}
	out := impl.NetOut{Net: netCopy(n)}
	list := listOf(out.Net, c.path, c.back)
	if c.name != "send" && (c.at < 0 || c.at >= int64(len(*list))) {
		return impl.NetOut{Code: impl.ErrNone}
	}
	if c.name == "send" && (c.bytes == "" || len(c.bytes) > mostThing) || c.name == "bend" && (c.by < 1 || c.by > 255) {
		return impl.NetOut{Code: impl.ErrForm}
	}
	room := len(*list) < impl.MaxFly
	at := int(c.at)
	switch {
	case c.name == "send" && room:
		*list = append(*list, c.bytes)
	case c.name == "twice" && room:
		*list = append(*list, (*list)[at])
	case c.name == "take":
		out.Bytes = (*list)[at]
		*list = slices.Delete(*list, at, at+1)
	case c.name == "bend":
		(*list)[at] = turn((*list)[at], 0, byte(c.by))
	}
	return out
}

func netCopy(n net) net {
	all := make(net, len(n))
	for i, w := range n {
		all[i] = impl.Way{There: slices.Clone(w.There), Back: slices.Clone(w.Back)}
	}
	return all
}

func listOf(n net, path int64, back bool) *[]string {
	if back {
		return &n[path].Back
	}
	return &n[path].There
}

func listsOf(n net) []*[]string {
	var all []*[]string
	for i := range n {
		all = append(all, &n[i].There, &n[i].Back)
	}
	return all
}

func sameNet(a net, b net) bool {
	return slices.EqualFunc(a, b, func(v impl.Way, w impl.Way) bool {
		return slices.Equal(v.There, w.There) && slices.Equal(v.Back, w.Back)
	})
}

func netIs(t *testing.T, what string, got impl.NetOut, want impl.NetOut) {
	t.Helper()
	if got.Code != want.Code || got.Bytes != want.Bytes || !sameNet(got.Net, want.Net) {
		t.Fatalf("%s: got %s, want %s", what, shown(got), shown(want))
	}
}

// flies looks at what flies then, and that nothing else is told.
func flies(t *testing.T, what string, got impl.NetOut, want net) {
	t.Helper()
	netIs(t, what, got, impl.NetOut{Net: want})
}

func netCode(t *testing.T, what string, got impl.NetOut, code int64) {
	t.Helper()
	netIs(t, what, got, impl.NetOut{Code: code})
}

// things are count that are not alike, each of some bytes.
func things(count int, name string) []string {
	var all []string
	for i := range count {
		all = append(all, name+strconv.Itoa(i))
	}
	return all
}

// netOf has ways on each of which as many things fly There, and Back.
func netOf(ways int, there int, back int) net {
	n := make(net, ways)
	for i := range n {
		name := string(alphabet[i%26])
		n[i] = impl.Way{There: things(there, name+"t"), Back: things(back, name+"b")}
	}
	return n
}

var bothDirections = []bool{false, true}

// rightNets are right, from nothing that flies to as much as can.
func rightNets() []net {
	long := strings.Repeat("\xff", mostThing)
	return []net{
		netOf(1, 0, 0), netOf(4, 0, 0), netOf(1, 1, 0), netOf(2, 0, 1), netOf(3, 2, 5), netOf(4, 5, 2),
		netOf(1, 7, 8), netOf(2, 8, 7), netOf(4, 8, 0), netOf(4, 0, 8), netOf(4, 8, 8),
		{{There: []string{"\x00", long, "a"}, Back: []string{long}}, {}, {Back: []string{"same", "same"}}},
	}
}

// wrongNets are not right, each for one reason, but for the last ones.
func wrongNets() []net {
	long := strings.Repeat("x", mostThing+1)
	return []net{
		nil, {}, netOf(5, 0, 0), netOf(5, 1, 1), netOf(impl.MaxList, 0, 0),
		netOf(1, 9, 0), netOf(1, 0, 9), netOf(4, 9, 8), netOf(4, 8, 9), netOf(1, 1000, 0), netOf(1, 0, 1000),
		{{There: []string{""}}}, {{Back: []string{""}}}, {{There: []string{"a", ""}}}, {{}, {Back: []string{"", "a"}}},
		{{There: []string{long}}}, {{Back: []string{long}}}, {{}, {}, {}, {Back: []string{"a", "b", long}}},
		{{There: []string{strings.Repeat("x", impl.MaxBytes+1)}}}, netOf(5, 9, 9), {{There: []string{"", long}}, {Back: things(9, "")}},
	}
}

var manyWays = []int{impl.MaxList + 1, impl.MaxList + 2, 1 << 16}

func TestNetRight(t *testing.T) {
	for _, n := range rightNets() {
		same(t, "right "+shown(n), impl.NetRight(n), true)
	}
	for _, n := range wrongNets() {
		same(t, "not right "+shown(n), impl.NetRight(n), false)
		same(t, "Flying "+shown(n), impl.Flying(n), -1)
	}
	for ways := range 10 {
		same(t, "so many ways", impl.NetRight(make(net, ways)), ways >= 1 && ways <= 4)
	}
	for _, ways := range manyWays {
		same(t, "too many ways", impl.NetRight(make(net, ways)), false)
		same(t, "Flying on too many", impl.Flying(make(net, ways)), -1)
	}
}

// TestNetRightEverywhere puts so many things, and one of so many bytes, in
// each direction of each way.
func TestNetRightEverywhere(t *testing.T) {
	for ways := 1; ways <= 4; ways++ {
		for i := range 2 * ways {
			for count := range 12 {
				n := netOf(ways, 3, 4)
				*listsOf(n)[i] = things(count, "x")
				same(t, "so many things", impl.NetRight(n), count <= impl.MaxFly)
			}
			for _, size := range []int{0, 1, 2, 99, 100, 101, 102, 256, 257, 356, impl.MaxBytes, impl.MaxBytes + 1} {
				for at := range impl.MaxFly {
					n := netOf(ways, 8, 8)
					(*listsOf(n)[i])[at] = strings.Repeat("y", size)
					same(t, "so many bytes", impl.NetRight(n), size >= 1 && size <= mostThing)
				}
			}
		}
	}
}

func TestFlying(t *testing.T) {
	for ways := 1; ways <= 4; ways++ {
		for there := range impl.MaxFly + 1 {
			for back := range impl.MaxFly + 1 {
				same(t, "all that fly", impl.Flying(netOf(ways, there, back)), int64(ways*(there+back)))
			}
		}
	}
	same(t, "on two of four", impl.Flying(net{{}, {There: []string{"a"}}, {}, {Back: []string{"b", "b"}}}), 3)
}

func TestSendFliesBehindTheOthers(t *testing.T) {
	n := net{{There: []string{"a"}, Back: []string{"x"}}, {}}
	flies(t, "there", impl.NetSend(n, 0, false, "b"), net{{There: []string{"a", "b"}, Back: []string{"x"}}, {}})
	flies(t, "back", impl.NetSend(n, 0, true, "b"), net{{There: []string{"a"}, Back: []string{"x", "b"}}, {}})
	flies(t, "on the last way", impl.NetSend(n, 1, false, "b"), net{{There: []string{"a"}, Back: []string{"x"}}, {There: []string{"b"}}})
	flies(t, "back on the last way", impl.NetSend(n, 1, true, "b"), net{{There: []string{"a"}, Back: []string{"x"}}, {Back: []string{"b"}}})
	flies(t, "the same once more", impl.NetSend(n, 0, false, "a"), net{{There: []string{"a", "a"}, Back: []string{"x"}}, {}})
	flies(t, "bytes of all kinds", impl.NetSend(make(net, 1), 0, false, "\x00\xff\x80"), net{{There: []string{"\x00\xff\x80"}}})
}

func TestSendSizes(t *testing.T) {
	for _, n := range []net{make(net, 1), netOf(1, 7, 7), netOf(1, 8, 8)} {
		for _, back := range bothDirections {
			for _, size := range []int{1, 2, 99, 100} {
				c := call{name: "send", back: back, bytes: alphabet[:size]}
				netIs(t, "right bytes", c.do(n), c.told(n))
				same(t, "told", c.do(n).Code, impl.OK)
			}
			for _, size := range []int{0, 101, 102, 256, 257, 356, impl.MaxBytes - 1, impl.MaxBytes} {
				netCode(t, "wrong bytes", impl.NetSend(n, 0, back, strings.Repeat("x", size)), impl.ErrForm)
			}
			for _, size := range []int{impl.MaxBytes + 1, impl.MaxBytes + 2, 1 << 17} {
				netCode(t, "too many bytes", impl.NetSend(n, 0, back, strings.Repeat("x", size)), impl.ErrSize)
			}
		}
	}
}

// TestSendUntilLost sends more than can fly, in each direction of each way.
func TestSendUntilLost(t *testing.T) {
	all := things(2*impl.MaxFly, "x")
	for path := range int64(4) {
		for _, back := range bothDirections {
			n := make(net, 4)
			for i, thing := range all {
				out := impl.NetSend(n, path, back, thing)
				want := make(net, 4)
				*listOf(want, path, back) = all[:min(i+1, impl.MaxFly)]
				flies(t, "sent", out, want)
				n = out.Net
			}
			same(t, "in the other direction there is room", impl.Flying(impl.NetSend(n, path, !back, "x").Net), impl.MaxFly+1)
		}
	}
}

func TestTakeEachPlace(t *testing.T) {
	for count := 1; count <= impl.MaxFly; count++ {
		for _, back := range bothDirections {
			all := things(count, "x")
			for at := range count {
				n := netOf(2, 3, 3)
				*listOf(n, 1, back) = all
				want := netOf(2, 3, 3)
				*listOf(want, 1, back) = append(slices.Clone(all[:at]), all[at+1:]...)
				netIs(t, "taken", impl.NetTake(n, 1, back, int64(at)), impl.NetOut{Net: want, Bytes: all[at]})
			}
		}
	}
	alike := net{{There: []string{"a", "b", "a"}}}
	netIs(t, "of two alike the first", impl.NetTake(alike, 0, false, 0), impl.NetOut{Net: net{{There: []string{"b", "a"}}}, Bytes: "a"})
	netIs(t, "of two alike the last", impl.NetTake(alike, 0, false, 2), impl.NetOut{Net: net{{There: []string{"a", "b"}}}, Bytes: "a"})
}

func TestTwice(t *testing.T) {
	n := net{{}, {There: []string{"a", "b", "c"}, Back: []string{"x"}}}
	flies(t, "the first", impl.NetTwice(n, 1, false, 0), net{{}, {There: []string{"a", "b", "c", "a"}, Back: []string{"x"}}})
	flies(t, "one between", impl.NetTwice(n, 1, false, 1), net{{}, {There: []string{"a", "b", "c", "b"}, Back: []string{"x"}}})
	flies(t, "the last", impl.NetTwice(n, 1, false, 2), net{{}, {There: []string{"a", "b", "c", "c"}, Back: []string{"x"}}})
	flies(t, "back", impl.NetTwice(n, 1, true, 0), net{{}, {There: []string{"a", "b", "c"}, Back: []string{"x", "x"}}})
}

func TestTwiceOfMaxFly(t *testing.T) {
	for at := range int64(impl.MaxFly) {
		for _, back := range bothDirections {
			full, room := netOf(3, 8, 8), netOf(3, 7, 7)
			flies(t, "not", impl.NetTwice(full, 1, back, at), full)
			if at < 7 {
				list := listOf(room, 1, back)
				doubled := (*list)[at]
				out := impl.NetTwice(room, 1, back, at)
				*list = append(*list, doubled)
				flies(t, "the last there is room for", out, room)
			}
		}
	}
}

func TestBend(t *testing.T) {
	n := net{{There: []string{"abc", "b", "\x00"}, Back: []string{"b"}}, {}}
	flies(t, "the lowest bit", impl.NetBend(n, 0, false, 1, 1), net{{There: []string{"abc", "c", "\x00"}, Back: []string{"b"}}, {}})
	flies(t, "the highest bit", impl.NetBend(n, 0, false, 2, 128), net{{There: []string{"abc", "b", "\x80"}, Back: []string{"b"}}, {}})
	flies(t, "all bits", impl.NetBend(n, 0, false, 0, 255), net{{There: []string{"\x9ebc", "b", "\x00"}, Back: []string{"b"}}, {}})
	flies(t, "back", impl.NetBend(n, 0, true, 0, 32), net{{There: []string{"abc", "b", "\x00"}, Back: []string{"B"}}, {}})
	alike := net{{There: []string{"a", "a"}}}
	flies(t, "of two alike one", impl.NetBend(alike, 0, false, 1, 2), net{{There: []string{"a", "c"}}})
}

func TestBendEachBit(t *testing.T) {
	for b := range 256 {
		for by := int64(1); by <= 255; by++ {
			n := net{{There: []string{string([]byte{byte(b), 7})}}}
			out := impl.NetBend(n, 0, false, 0, by)
			flies(t, "turned", out, net{{There: []string{string([]byte{byte(b) ^ byte(by), 7})}}})
			flies(t, "turned round again", impl.NetBend(out.Net, 0, false, 0, by), n)
		}
	}
	for _, by := range []int64{0, -1, -255, 256, 257, 511, 512, 1 << 32, 1<<32 + 1, math.MinInt64, math.MinInt64 + 1, math.MaxInt64} {
		netCode(t, "no by", impl.NetBend(netOf(1, 1, 1), 0, false, 0, by), impl.ErrForm)
		netCode(t, "no by, back", impl.NetBend(netOf(1, 8, 8), 0, true, 7, by), impl.ErrForm)
	}
}

// namedCalls are all four of what is handed in.
func namedCalls(c call) []call {
	var all []call
	for _, c.name = range []string{"send", "take", "twice", "bend"} {
		all = append(all, c)
	}
	return all
}

func TestNoSuchPath(t *testing.T) {
	for ways := 1; ways <= 4; ways++ {
		for _, path := range []int64{-1, -2, int64(ways), int64(ways) + 1, 4, 256, 1 << 32, 1<<32 + 1, -1 << 32, math.MinInt64, math.MaxInt64} {
			for _, back := range bothDirections {
				for _, c := range namedCalls(call{path: path, back: back, by: 1, bytes: "a"}) {
					netCode(t, c.name, c.do(netOf(ways, 2, 2)), impl.ErrNone)
				}
			}
		}
		for _, c := range namedCalls(call{path: int64(ways) - 1, by: 1, bytes: "a"}) {
			same(t, c.name+" on the last one", c.do(netOf(ways, 2, 2)).Code, impl.OK)
		}
	}
}

// TestNoSuchPlace: what flies in the other direction, or on another way, is no
// place of this one.
func TestNoSuchPlace(t *testing.T) {
	for _, count := range []int{0, 1, 2, 7, 8} {
		n := netOf(3, 8, 8)
		n[1].There = things(count, "x")
		m := netOf(3, 8, 8)
		m[1].Back = things(count, "x")
		for _, at := range []int64{-1, -2, -8, int64(count), int64(count) + 1, 8, 9, 256, 1 << 32, -1 << 32, math.MinInt64, math.MaxInt64} {
			for _, c := range namedCalls(call{path: 1, at: at, by: 1})[1:] {
				netCode(t, c.name, c.do(n), impl.ErrNone)
				c.back = true
				netCode(t, c.name+" back", c.do(m), impl.ErrNone)
			}
		}
		for _, c := range namedCalls(call{path: 1, at: 7, by: 1}) {
			c.bytes = "a" // of NetSend no place is looked at
			same(t, c.name+", where there are eight", c.do(m).Code, impl.OK)
		}
	}
}

// TestWhichFaultIsFirst hands in more than one thing that is not right.
func TestWhichFaultIsFirst(t *testing.T) {
	long := strings.Repeat("x", impl.MaxBytes+1)
	right := netOf(2, 1, 1)
	for _, back := range bothDirections {
		for _, path := range []int64{-1, 0, 1, 2} {
			for _, ways := range manyWays {
				for _, c := range namedCalls(call{path: path, back: back, at: -1, bytes: long}) {
					netCode(t, c.name+" on too many ways", c.do(make(net, ways)), impl.ErrSize)
				}
				netCode(t, "nothing on too many ways", impl.NetSend(make(net, ways), path, back, ""), impl.ErrSize)
			}
			netCode(t, "too many bytes, and no such path", impl.NetSend(right, path, back, long), impl.ErrSize)
			for _, n := range wrongNets() {
				netCode(t, "too many bytes on no net", impl.NetSend(n, path, back, long), impl.ErrSize)
				for _, c := range namedCalls(call{path: path, back: back, at: -1, bytes: long[:impl.MaxBytes]}) {
					netCode(t, c.name+" on no net", c.do(n), impl.ErrForm)
				}
			}
		}
		for _, bytes := range []string{"", long[:mostThing+1], long[:impl.MaxBytes]} {
			netCode(t, "wrong bytes, and no such path", impl.NetSend(right, 2, back, bytes), impl.ErrNone)
		}
		for _, by := range []int64{-1, 0, 256} {
			netCode(t, "wrong by, and no such path", impl.NetBend(right, 2, back, 0, by), impl.ErrNone)
			netCode(t, "wrong by, and no such place", impl.NetBend(right, 0, back, 1, by), impl.ErrNone)
		}
	}
}

// allCalls are all that can be handed in with each net.
func allCalls(n net) []call {
	var all []call
	for _, path := range []int64{-1, 0, int64(len(n)) - 1, int64(len(n))} {
		for _, back := range bothDirections {
			for _, bytes := range []string{"", "q", alphabet[:mostThing], alphabet[:mostThing+1]} {
				all = append(all, call{name: "send", path: path, back: back, bytes: bytes})
			}
			for at := int64(-1); at <= impl.MaxFly; at++ {
				all = append(all, call{name: "take", path: path, back: back, at: at}, call{name: "twice", path: path, back: back, at: at})
				for _, by := range []int64{0, 1, 128, 255, 256} {
					all = append(all, call{name: "bend", path: path, back: back, at: at, by: by})
				}
			}
		}
	}
	return all
}

func TestAllCallsAsTold(t *testing.T) {
	for _, n := range append(rightNets(), wrongNets()...) {
		before := netCopy(n)
		for _, c := range allCalls(n) {
			want := c.told(n)
			netIs(t, shown(c), c.do(n), want)
			netIs(t, shown(c)+" again", c.do(n), want)
			if !sameNet(n, before) {
				t.Fatalf("%s changed the net", shown(c))
			}
		}
	}
}

const spare = "spare"

// withSpare is that net with memory behind the end of each list, which is
// not to be written to either.
func withSpare(n net) net {
	all := netCopy(n)
	for _, list := range listsOf(all) {
		end := len(*list)
		*list = append(*list, spare, spare)[:end]
	}
	return append(all, impl.Way{There: []string{spare}})[:len(n)]
}

func spareIs(n net) bool {
	for _, list := range listsOf(n) {
		behind := (*list)[len(*list) : len(*list)+2]
		if behind[0] != spare || behind[1] != spare {
			return false
		}
	}
	return sameNet(n[len(n):len(n)+1], net{{There: []string{spare}}})
}

// spoil writes over a list, and over what memory it has behind its end.
func spoil(list []string) {
	list = list[:cap(list)]
	for i := range list {
		list[i] = "spoilt"
	}
}

// TestNetMemory: no argument is changed, and an answer shares no memory with
// one, nor two lists of one answer with each other.
func TestNetMemory(t *testing.T) {
	for _, right := range rightNets() {
		for _, c := range allCalls(right) {
			want := c.told(right)
			n := withSpare(right)
			netIs(t, shown(c), c.do(n), want)
			if !sameNet(n, right) || !spareIs(n) {
				t.Fatalf("%s changed the net", shown(c))
			}
			out := c.do(n)
			for _, list := range listsOf(n) {
				spoil(*list)
			}
			clear(n)
			netIs(t, shown(c)+", the argument spoilt", out, want)
			answerSpoilt(t, c, right, want)
		}
	}
}

// answerSpoilt writes over the lists of the answer, one after the other.
func answerSpoilt(t *testing.T, c call, right net, want impl.NetOut) {
	t.Helper()
	for i := range listsOf(want.Net) {
		n := withSpare(right)
		out := c.do(n)
		lists := listsOf(out.Net)
		spoil(*lists[i])
		*lists[i] = *listsOf(want.Net)[i]
		netIs(t, shown(c)+", one list spoilt", out, want)
		clear(out.Net[:cap(out.Net)])
		if !sameNet(n, right) || !spareIs(n) {
			t.Fatalf("%s told of a net that the argument has part in", shown(c))
		}
	}
}

// TestNetOfOneList hands in one list in the place of all.
func TestNetOfOneList(t *testing.T) {
	list := things(7, "x")
	one := net{{There: list, Back: list}, {There: list[:3], Back: list[2:]}}
	before := netCopy(one)
	for _, c := range allCalls(one) {
		want := c.told(before)
		netIs(t, shown(c), c.do(one), want)
		if !sameNet(one, before) {
			t.Fatalf("%s changed the net", shown(c))
		}
		for i := range listsOf(want.Net) {
			out := c.do(one)
			lists := listsOf(out.Net)
			spoil(*lists[i])
			*lists[i] = *listsOf(want.Net)[i]
			netIs(t, shown(c)+", one list spoilt", out, want)
		}
	}
}

// randomCall is one that mostly can be done.
func randomCall(random *rand.Rand, ways int, sent int) call {
	c := call{path: int64(random.Intn(ways)), back: random.Intn(2) == 0, at: int64(random.Intn(impl.MaxFly + 1)), by: 1 + random.Int63n(255)}
	c.bytes = "thing " + strconv.Itoa(sent)
	c.name = []string{"send", "send", "take", "twice", "bend"}[random.Intn(5)]
	return c
}

func TestManyCallsAsTold(t *testing.T) {
	random := rand.New(rand.NewSource(12))
	for ways := 1; ways <= 4; ways++ {
		n, want := make(net, ways), make(net, ways)
		for i := range 20000 {
			c := randomCall(random, ways, i)
			out, told := c.do(n), c.told(want)
			netIs(t, shown(c), out, told)
			if out.Code == impl.OK {
				n, want = out.Net, told.Net
			}
			same(t, "right", impl.NetRight(n), true)
		}
	}
}

// TestWhatIsSentIsTakenOnceForEachTime counts each thing: it is taken as often
// as it was sent and doubled, but for what was lost, and then flies no more.
func TestWhatIsSentIsTakenOnceForEachTime(t *testing.T) {
	random := rand.New(rand.NewSource(13))
	for ways := 1; ways <= 4; ways++ {
		n := make(net, ways)
		left := map[string]int{}
		for i := range 20000 {
			c := randomCall(random, ways, i)
			list := *listOf(n, c.path, c.back)
			if c.name == "bend" || c.name != "send" && c.at >= int64(len(list)) {
				continue
			}
			room := len(list) < impl.MaxFly
			out := c.do(n)
			same(t, "code", out.Code, impl.OK)
			switch {
			case c.name == "take":
				left[out.Bytes]--
			case c.name == "twice" && room:
				left[list[c.at]]++
			case c.name == "send" && room:
				left[c.bytes]++
			}
			n = out.Net
		}
		for impl.Flying(n) > 0 {
			n = takeAny(t, n, left)
		}
		for thing, count := range left {
			same(t, "left of "+thing, count, 0)
		}
	}
}

func takeAny(t *testing.T, n net, left map[string]int) net {
	t.Helper()
	for path := range int64(len(n)) {
		for _, back := range bothDirections {
			out := impl.NetTake(n, path, back, 0)
			if out.Code != impl.OK {
				continue
			}
			same(t, "one flies less", impl.Flying(out.Net), impl.Flying(n)-1)
			left[out.Bytes]--
			return out.Net
		}
	}
	t.Fatal("something flies that can not be taken")
	return nil
}
