package route_test

import (
	"math"
	"math/rand"
	"slices"
	"testing"

	"multikernel/api"
	"multikernel/route"
)

// P6.1

func TestDistanceExample(t *testing.T) {
	h := line(5, 7)
	checkDistance(t, h, 0, 2, 12, 0, 1, 2)
	checkDistance(t, h, 2, 0, 12, 2, 1, 0)
	checkDistance(t, h, 0, 1, 5, 0, 1)
	checkDistance(t, h, 1, 1, 0, 1)
}

func TestDistanceWithoutLinks(t *testing.T) {
	h := line()
	for node := range api.MaxNodes {
		checkDistance(t, h, node, node, 0, node)
	}
	checkDistanceError(t, h, 0, 1, api.ErrDisconnected)
	checkDistanceError(t, h, 62, 63, api.ErrDisconnected)
}

func TestDistanceOfBoard(t *testing.T) {
	h := board()
	checkDistance(t, h, 63, 0, 20, 63, 20, 3, 0)
	checkDistance(t, h, 0, 63, 20, 0, 3, 20, 63)
	checkDistance(t, h, 20, 0, 10, 20, 3, 0)
	checkDistance(t, h, 40, 41, 2, 40, 41)
	checkDistance(t, h, 41, 40, 2, 41, 40)
	checkDistance(t, h, 50, 50, 0, 50)
	checkDistanceError(t, h, 0, 40, api.ErrDisconnected)
	checkDistanceError(t, h, 41, 63, api.ErrDisconnected)
	checkDistanceError(t, h, 50, 0, api.ErrDisconnected)
}

func TestDistanceRange(t *testing.T) {
	h := board()
	for _, odd := range []int{-1, -64, api.MaxNodes, api.MaxNodes + 1, math.MaxInt, math.MinInt} {
		for _, node := range []int{0, 63, 40, odd} {
			checkDistanceError(t, h, node, odd, api.ErrRange)
			checkDistanceError(t, h, odd, node, api.ErrRange)
		}
	}
}

func TestDistanceOfInvalidHardware(t *testing.T) {
	for err, h := range brokenBoards(t) {
		checkDistanceError(t, h, 0, 0, err)
		checkDistanceError(t, h, -1, 0, err)
		checkDistanceError(t, h, 0, 40, err)
	}
}

// A direct link may be longer than a way round, and a path with more links may be the first one or not.
func TestPathAmongEqualOnes(t *testing.T) {
	h := line()
	h.Links = []api.Link{{A: 0, B: 5, Latency: 4}, {A: 0, B: 2, Latency: 1}, {A: 5, B: 2, Latency: 3}, {A: 3, B: 0, Latency: 2}, {A: 5, B: 3, Latency: 2}, {A: 5, B: 9, Latency: 1}, {A: 9, B: 10, Latency: 5}, {A: 10, B: 5, Latency: 7}}
	checkDistance(t, h, 0, 5, 4, 0, 2, 5)
	checkDistance(t, h, 5, 0, 4, 5, 0)
	checkDistance(t, h, 0, 9, 5, 0, 2, 5, 9)
	checkDistance(t, h, 9, 0, 5, 9, 5, 0)
	checkDistance(t, h, 0, 10, 10, 0, 2, 5, 9, 10)
	checkDistance(t, h, 3, 2, 3, 3, 0, 2)
}

// The least next node may lie on no shortest path, and the least path may begin with a greater latency.
func TestPathIsNotGreedy(t *testing.T) {
	h := line()
	h.Links = []api.Link{{A: 10, B: 1, Latency: 1}, {A: 1, B: 20, Latency: 9}, {A: 10, B: 5, Latency: 6}, {A: 5, B: 20, Latency: 2}, {A: 10, B: 7, Latency: 2}, {A: 7, B: 20, Latency: 6}}
	checkDistance(t, h, 10, 20, 8, 10, 5, 20)
	checkDistance(t, h, 20, 10, 8, 20, 5, 10)
}

func TestLongestDistance(t *testing.T) {
	h := line()
	var path []int
	for node := range api.MaxNodes {
		path = append(path, node)
		if node > 0 {
			h.Links = append(h.Links, api.Link{A: node, B: node - 1, Latency: api.MaxLatency})
		}
	}
	checkDistance(t, h, 0, 63, 63*api.MaxLatency, path...)
	slices.Reverse(path)
	checkDistance(t, h, 63, 0, 63*api.MaxLatency, path...)
}

// denseBoard has MaxLinks links.
func denseBoard(r *rand.Rand, latency func() int) api.Hardware {
	h := line()
	for _, i := range r.Perm(api.MaxNodes * api.MaxNodes) {
		if a, b := i/api.MaxNodes, i%api.MaxNodes; a < b && len(h.Links) < api.MaxLinks {
			h.Links = append(h.Links, api.Link{A: a, B: b, Latency: latency()})
		}
	}
	return h
}

func TestDistanceOfDenseBoard(t *testing.T) {
	r := rand.New(rand.NewSource(1))
	for _, limit := range []int{1, 3, 50, api.MaxLatency} {
		h := denseBoard(r, func() int { return 1 + r.Intn(limit) })
		d := distances(h)
		for range 200 {
			a, b := r.Intn(api.MaxNodes), r.Intn(api.MaxNodes)
			if d[a][b] == unreachable {
				checkDistanceError(t, h, a, b, api.ErrDisconnected)
				continue
			}
			checkDistance(t, h, a, b, d[a][b], leastPath(h, d, a, b)...)
		}
	}
}

// leastPath extends, one node at a time, all shortest paths to b and keeps the least one from each node.
func leastPath(h api.Hardware, d [api.MaxNodes][api.MaxNodes]int, a, b int) []int {
	best := map[int][]int{b: {b}}
	for range api.MaxNodes {
		for _, l := range slices.Concat(h.Links, reversed(h.Links)) {
			rest, found := best[l.B]
			if !found || d[l.A][b] != l.Latency+d[l.B][b] {
				continue
			}
			path := append([]int{l.A}, rest...)
			if old, found := best[l.A]; !found || slices.Compare(path, old) < 0 {
				best[l.A] = path
			}
		}
	}
	return best[a]
}

func reversed(links []api.Link) []api.Link {
	var list []api.Link
	for _, l := range links {
		list = append(list, api.Link{A: l.B, B: l.A, Latency: l.Latency})
	}
	return list
}

// allPaths calls found with each path from a to b that visits no node twice, and with its length.
func allPaths(h api.Hardware, a, b int, found func(path []int, length int)) {
	links := slices.Concat(h.Links, reversed(h.Links))
	var extend func(path []int, length int)
	extend = func(path []int, length int) {
		end := path[len(path)-1]
		if end == b {
			found(path, length)
			return
		}
		for _, l := range links {
			if l.A == end && !slices.Contains(path, l.B) {
				extend(append(slices.Clone(path), l.B), length+l.Latency)
			}
		}
	}
	extend([]int{a}, 0)
}

func TestPathAgainstAllPaths(t *testing.T) {
	r := rand.New(rand.NewSource(2))
	ties, disconnected := 0, 0
	for range 1500 {
		h := randomBoard(r)
		nodes := []int{0, 63, h.Cores[0].Node}
		for _, l := range h.Links {
			nodes = append(nodes, l.A, l.B)
		}
		for range 10 {
			a, b := pick(r, nodes), pick(r, nodes)
			least, best, equal := unreachable, []int(nil), 0
			allPaths(h, a, b, func(path []int, length int) {
				if length == least {
					equal++
				}
				if length < least {
					equal = 1
				}
				if length < least || length == least && slices.Compare(path, best) < 0 {
					least, best = length, slices.Clone(path)
				}
			})
			switch {
			case equal == 0:
				disconnected++
				checkDistanceError(t, h, a, b, api.ErrDisconnected)
			default:
				checkDistance(t, h, a, b, least, best...)
			}
			if equal > 1 {
				ties++
			}
		}
	}
	if ties < 300 || disconnected < 100 {
		t.Error("only", ties, "ties and", disconnected, "pairs that are not connected")
	}
}

// P6.6

func TestDistanceIsMetric(t *testing.T) {
	r := rand.New(rand.NewSource(3))
	for range 60 {
		h := randomBoard(r)
		var nodes []int
		for _, c := range h.Cores {
			nodes = append(nodes, c.Node)
		}
		distance := func(a, b int) int {
			d, err := route.Distance(h, a, b)
			if err != api.OK {
				t.Fatalf("from %d to %d: error %d", a, b, err)
			}
			return d
		}
		for _, a := range nodes {
			for _, b := range nodes {
				if ab := distance(a, b); ab < 0 || (ab == 0) != (a == b) || ab != distance(b, a) {
					t.Error(h, a, b, ab)
				}
				for _, c := range nodes {
					if distance(a, c) > distance(a, b)+distance(b, c) {
						t.Error(h, a, b, c)
					}
				}
			}
		}
	}
}

// The order of the links, and the order of the two nodes of a link, do not matter.
func TestDistanceInAnyOrderOfLinks(t *testing.T) {
	r := rand.New(rand.NewSource(4))
	for range 50 {
		h := randomBoard(r)
		a, b := pick(r, h.Cores).Node, pick(r, h.Cores).Node
		want, _ := route.Distance(h, a, b)
		path, _ := route.Path(h, a, b)
		for range 10 {
			r.Shuffle(len(h.Links), func(i, j int) { h.Links[i], h.Links[j] = h.Links[j], h.Links[i] })
			if len(h.Links) > 0 {
				h.Links[0].A, h.Links[0].B = h.Links[0].B, h.Links[0].A
			}
			checkDistance(t, h, a, b, want, path...)
		}
	}
}
