package facts_test

import (
	"math"
	"math/rand"
	"runtime"
	"slices"
	"strings"
	"testing"

	"multikernel/api"
	"multikernel/facts"
	"multikernel/hwdesc"
)

// machine returns a valid description with several items of each kind, none of them in the order of Normalize.
func machine() api.Hardware {
	return api.Hardware{
		Name:  "board 7",
		Cores: []api.Core{{ID: 5, Width: 39, Node: 1, Speed: 700}, {ID: 0, Width: 32, Node: 0, Speed: 100}, {ID: 2, Width: 32, Node: 0, Speed: 200}},
		Caches: []api.Cache{
			{Name: "shared", Level: 3, Line: 128, Size: 1 << 40, Cores: []int{0, 2, 5}},
			{Name: "left", Level: 1, Line: 64, Size: 32768, Cores: []int{0, 2}},
			{Name: "c5", Level: 1, Line: 16, Size: 4096, Cores: []int{5}},
		},
		Links:    []api.Link{{A: 7, B: 1, Latency: 30}, {A: 0, B: 7, Latency: 40}},
		Memories: []api.Memory{{Name: "high", Base: 1 << 39, Size: 1 << 39, Node: 1, Latency: 90}, {Name: "low", Base: 1 << 20, Size: 1 << 20, Node: 0, Latency: 80}},
		Devices:  []api.Device{{Name: "uart", Node: 7, IRQ: 9, Base: 0, Size: 4096}, {Name: "timer", Node: 0, IRQ: 3, Base: 8192, Size: 12288}},
	}
}

func machineFacts() []api.Fact {
	item := func(relation, name string, numbers ...int64) api.Fact {
		f := integers(relation, numbers...)
		f.Args = slices.Insert(f.Args, 0, word(name))
		return f
	}
	return []api.Fact{
		item("cache", "c5", 1, 4096, 16),
		item("cache", "left", 1, 32768, 64),
		item("cache", "shared", 3, 1<<40, 128),
		integers("core", 0, 32, 0, 100),
		integers("core", 2, 32, 0, 200),
		integers("core", 5, 39, 1, 700),
		item("device", "timer", 0, 3, 8192, 12288),
		item("device", "uart", 7, 9, 0, 4096),
		integers("link", 0, 7, 40),
		integers("link", 1, 7, 30),
		item("machine", "board 7"),
		item("memory", "high", 1<<39, 1<<39, 1, 90),
		item("memory", "low", 1<<20, 1<<20, 0, 80),
		item("shares", "c5", 5),
		item("shares", "left", 0),
		item("shares", "left", 2),
		item("shares", "shared", 0),
		item("shares", "shared", 2),
		item("shares", "shared", 5),
	}
}

func checkToHardware(t *testing.T, db []api.Fact, want api.Hardware) {
	t.Helper()
	if got, err := facts.ToHardware(db); err != api.OK || !hwdesc.Equal(got, want) {
		t.Errorf("%v: %v, error %d, want %v", db, got, err, want)
	}
}

func checkNoHardware(t *testing.T, db []api.Fact) {
	t.Helper()
	if got, err := facts.ToHardware(db); err != api.ErrUnknown || !hwdesc.Equal(got, api.Hardware{}) {
		t.Errorf("%v: %v, error %d", db, got, err)
	}
}

// P4.3

func TestFromHardware(t *testing.T) {
	h := machine()
	got, err := facts.FromHardware(h)
	if err != api.OK {
		t.Error(err)
	}
	checkSet(t, got, machineFacts())
	checkOwnMemory(t, got)
	if !hwdesc.Equal(h, machine()) {
		t.Error("the argument is changed")
	}
}

func TestFromSmallestHardware(t *testing.T) {
	h := api.Hardware{Name: "-", Cores: []api.Core{{Width: 32, Speed: 1}}}
	got, err := facts.FromHardware(h)
	if err != api.OK {
		t.Error(err)
	}
	want := []api.Fact{integers("core", 0, 32, 0, 1), fact("machine", word("-"))}
	checkSet(t, got, want)
	checkToHardware(t, want, h)
}

func TestFromInvalidHardware(t *testing.T) {
	for want, change := range map[api.Errno]func(*api.Hardware){
		api.ErrName:         func(h *api.Hardware) { h.Name = "" },
		api.ErrLimit:        func(h *api.Hardware) { h.Cores = nil },
		api.ErrRange:        func(h *api.Hardware) { h.Memories[0].Base = math.MaxUint64 },
		api.ErrAlign:        func(h *api.Hardware) { h.Devices[0].Base = 1 },
		api.ErrDuplicate:    func(h *api.Hardware) { h.Links = append(h.Links, api.Link{A: 7, B: 0, Latency: 1}) },
		api.ErrUnknown:      func(h *api.Hardware) { h.Caches[2].Cores = []int{6} },
		api.ErrHierarchy:    func(h *api.Hardware) { h.Caches[0].Cores = []int{5, 0, 2} },
		api.ErrOverlap:      func(h *api.Hardware) { h.Devices[1].Base = 1 << 20 },
		api.ErrDisconnected: func(h *api.Hardware) { h.Links = h.Links[1:] },
	} {
		h := machine()
		change(&h)
		if got, err := facts.FromHardware(h); err != want || len(got) != 0 {
			t.Error(got, err, want)
		}
	}
	if got, err := facts.FromHardware(api.Hardware{}); err != api.ErrName || len(got) != 0 {
		t.Error(got, err)
	}
}

func TestToHardware(t *testing.T) {
	db, want := machineFacts(), hwdesc.Normalize(machine())
	checkToHardware(t, db, want)
	r := rand.New(rand.NewSource(4))
	for range 20 {
		list := append(clone(db), db...)
		r.Shuffle(len(list), func(i, j int) { list[i], list[j] = list[j], list[i] })
		before := clone(list)
		checkToHardware(t, list, want)
		if !same(list, before) {
			t.Error("the argument is changed")
		}
	}
}

func TestToHardwareHasItsOwnMemory(t *testing.T) {
	h, _ := facts.ToHardware(machineFacts())
	for i := range h.Caches {
		cores := h.Caches[i].Cores[:cap(h.Caches[i].Cores)]
		for j := range cores {
			cores[j] = 99
		}
		for k := i + 1; k < len(h.Caches); k++ {
			if slices.Contains(h.Caches[k].Cores, 99) {
				t.Error("two caches share memory")
			}
		}
	}
}

func TestToHardwareOfNothing(t *testing.T) {
	checkNoHardware(t, nil)
	checkNoHardware(t, []api.Fact{})
	checkNoHardware(t, []api.Fact{{}})
	checkNoHardware(t, []api.Fact{fact("machine", word("m"))})
}

func TestToHardwareWithoutOneFact(t *testing.T) {
	for i, f := range machineFacts() {
		db, h := slices.Delete(machineFacts(), i, i+1), hwdesc.Normalize(machine())
		switch line := facts.Format([]api.Fact{f}); {
		case f.Relation == "memory":
			h.Memories = slices.DeleteFunc(h.Memories, func(m api.Memory) bool { return m.Name == f.Args[0].Word })
			checkToHardware(t, db, h)
		case f.Relation == "device":
			h.Devices = slices.DeleteFunc(h.Devices, func(d api.Device) bool { return d.Name == f.Args[0].Word })
			checkToHardware(t, db, h)
		case line == "shares(left, 0).\n":
			h.Caches[1].Cores = []int{2}
			checkToHardware(t, db, h)
		case line == "shares(left, 2).\n":
			h.Caches[1].Cores = []int{0}
			checkToHardware(t, db, h)
		case line == "shares(shared, 5).\n":
			h.Caches[2].Cores = []int{0, 2}
			checkToHardware(t, db, h)
		default:
			checkNoHardware(t, db)
		}
	}
}

func TestToHardwareWithOneMoreFact(t *testing.T) {
	for _, f := range []api.Fact{
		{},
		fact("machine"),
		fact("machine", word("board 8")),
		fact("machine", word("")),
		fact("machine", integer(7)),
		fact("machine", word("board 7"), word("board 7")),
		fact("machine", word("board 7"), api.Value{}),
		fact("machine", api.Value{Kind: api.WordValue, Int: 1, Word: "board 7"}),
		fact("core"),
		integers("core", 1),
		integers("core", 0, 32, 0),
		integers("core", 0, 32, 0, 101),
		integers("core", 1, 33, 0, 100),
		integers("core", 1, 32, 63, 100),
		integers("core", 1, 32, 0, 100, 0),
		integers("core", -1, 32, 0, 100),
		integers("core", 1<<32, 32, 0, 100),
		integers("core", math.MinInt64, 32, 0, 100),
		fact("core", integer(1), integer(32), integer(0), word("a")),
		fact("core", integer(1), integer(32), integer(0), api.Value{Kind: 3, Int: 100}),
		fact("core", integer(1), integer(32), integer(0), api.Value{Kind: api.IntValue, Int: 100, Word: "a"}),
		integers("Core", 1, 32, 0, 100),
		integers("cores", 1, 32, 0, 100),
		integers("", 1, 32, 0, 100),
		fact("cache", word("new"), integer(1), integer(4096), integer(16)),
		fact("cache", word("c5"), integer(2), integer(4096), integer(16)),
		fact("shares", word("new"), integer(0)),
		fact("shares", word("c5"), integer(0)),
		fact("shares", word("c5"), integer(6)),
		fact("shares", word("shared"), integer(6)),
		fact("shares", word("c5")),
		fact("shares", word("c5"), word("x")),
		fact("shares", word("c5"), integer(5), integer(5)),
		fact("shares", integer(5), integer(5)),
		fact("shares", word(""), integer(5)),
		integers("link", 7, 1, 30),
		integers("link", 1, 0, 30),
		integers("link", 1, 7, 31),
		integers("link", 1, 1, 30),
		integers("link", 1, 8),
		fact("memory", word("bad"), integer(-4096), integer(4096), integer(0), integer(1)),
		fact("memory", word("a b"), integer(4096), integer(4096), integer(0), integer(1)),
		fact("memory", word("low"), integer(4096), integer(4096), integer(0), integer(1)),
		fact("memory", word("over"), integer(1<<20), integer(4096), integer(0), integer(1)),
		fact("device", word("far"), integer(9), integer(1), integer(4096), integer(4096)),
		fact("device", word("same"), integer(0), integer(9), integer(4096), integer(4096)),
		fact("other", integer(1)),
	} {
		checkNoHardware(t, append(machineFacts(), f))
		checkNoHardware(t, append([]api.Fact{f}, machineFacts()...))
	}
}

func TestToHardwareWithOneMoreItem(t *testing.T) {
	for _, test := range []struct {
		add    []api.Fact
		change func(h *api.Hardware)
	}{
		{[]api.Fact{integers("core", 1, 39, 7, 1)}, func(h *api.Hardware) { h.Cores = append(h.Cores, api.Core{ID: 1, Width: 39, Node: 7, Speed: 1}) }},
		{[]api.Fact{integers("link", 0, 1, 5)}, func(h *api.Hardware) { h.Links = append(h.Links, api.Link{A: 1, B: 0, Latency: 5}) }},
		{[]api.Fact{fact("cache", word("right"), integer(2), integer(64), integer(64)), fact("shares", word("right"), integer(5))}, func(h *api.Hardware) {
			h.Caches = append(h.Caches, api.Cache{Name: "right", Level: 2, Size: 64, Line: 64, Cores: []int{5}})
		}},
		{[]api.Fact{fact("memory", word("uart"), integer(4096), integer(4096), integer(7), integer(6))}, func(h *api.Hardware) {
			h.Memories = append(h.Memories, api.Memory{Name: "uart", Base: 4096, Size: 4096, Node: 7, Latency: 6})
		}},
		{[]api.Fact{fact("device", word("low"), integer(7), integer(0), integer(4096), integer(4096))}, func(h *api.Hardware) {
			h.Devices = append(h.Devices, api.Device{Name: "low", Node: 7, IRQ: 0, Base: 4096, Size: 4096})
		}},
	} {
		h := machine()
		test.change(&h)
		checkToHardware(t, append(machineFacts(), test.add...), hwdesc.Normalize(h))
	}
}

// TestToHardwareMemory has many caches of one name: the cores of that name must not be copied for each of them.
func TestToHardwareMemory(t *testing.T) {
	db := machineFacts()
	for i := range 4000 {
		db = append(db, fact("cache", word("c"), integer(int64(i))), fact("shares", word("c"), integer(int64(i))))
	}
	var before, after runtime.MemStats
	runtime.ReadMemStats(&before)
	checkNoHardware(t, db)
	runtime.ReadMemStats(&after)
	if n := after.TotalAlloc - before.TotalAlloc; n > 1<<25 {
		t.Error(n, "bytes")
	}
}

// readBack is a second reading of P4.3: it checks each fact by itself, writes all of them as a text of chapter 3 and reads that.
func readBack(db []api.Fact) (api.Hardware, bool) {
	shapes := map[string]string{"machine": "w", "core": "iiii", "cache": "wiii", "shares": "wi", "link": "iii", "memory": "wiiii", "device": "wiiii"}
	cores, head, body := map[string][]string{}, "", ""
	set := setOf(db)
	for _, f := range set {
		line := facts.Format([]api.Fact{f})
		if line == "" || shape(f) != shapes[f.Relation] || strings.Contains(line, "-") && f.Relation != "machine" {
			return api.Hardware{}, false
		}
		if f.Relation == "shares" {
			cores[f.Args[0].Word] = append(cores[f.Args[0].Word], strings.Trim(line[strings.Index(line, ", ")+2:], ").\n"))
		}
	}
	caches := 0
	for _, f := range set {
		line := facts.Format([]api.Fact{f})
		a := strings.Split(line[len(f.Relation)+1:len(line)-3], ", ")
		switch f.Relation {
		case "machine":
			head += `machine "` + f.Args[0].Word + `"`
		case "core":
			body += "core " + a[0] + " { width " + a[1] + "; node " + a[2] + "; speed " + a[3] + "; }"
		case "cache":
			body += "cache " + a[0] + " { level " + a[1] + "; size " + a[2] + "; line " + a[3] + "; cores " + strings.Join(cores[a[0]], ",") + "; }"
			if len(cores[a[0]]) > 0 {
				caches++
			}
		case "link":
			if f.Args[0].Int >= f.Args[1].Int {
				return api.Hardware{}, false
			}
			body += "link " + a[0] + " " + a[1] + " { latency " + a[2] + "; }"
		case "memory":
			body += "memory " + a[0] + " { base " + a[1] + "; size " + a[2] + "; node " + a[3] + "; latency " + a[4] + "; }"
		case "device":
			body += "device " + a[0] + " { node " + a[1] + "; irq " + a[2] + "; base " + a[3] + "; size " + a[4] + "; }"
		}
	}
	h, _, err := hwdesc.Parse(head + "{" + body + "}")
	h = hwdesc.Normalize(h)
	return h, err == api.OK && hwdesc.Validate(h) == api.OK && caches == len(cores)
}

func shape(f api.Fact) string {
	var s string
	for _, v := range f.Args {
		s += map[int]string{api.IntValue: "i", api.WordValue: "w"}[v.Kind]
	}
	return s
}

// TestToHardwareAgainstText changes some facts of a machine at random.
func TestToHardwareAgainstText(t *testing.T) {
	r := rand.New(rand.NewSource(5))
	found := 0
	for range 20000 {
		db := machineFacts()
		for range 1 + r.Intn(2) {
			db = changed(r, db)
		}
		want, exists := readBack(db)
		if exists {
			found++
			checkToHardware(t, db, want)
		} else {
			checkNoHardware(t, db)
		}
		if t.Failed() {
			return
		}
	}
	if found < 1000 || found > 19000 {
		t.Error(found, "of the fact bases describe a machine")
	}
}

func changed(r *rand.Rand, db []api.Fact) []api.Fact {
	i := r.Intn(len(db))
	values := []api.Value{integer(0), integer(1), integer(2), integer(3), integer(5), integer(7), integer(32), integer(39), integer(64), integer(4096), integer(1 << 20), integer(-1), integer(math.MinInt64),
		word("a"), word("c5"), word("left"), word("shared"), word("a b"), word("low"), {}, {Kind: api.IntValue, Int: 1, Word: "a"}}
	switch r.Intn(6) {
	case 0:
		return slices.Delete(db, i, i+1)
	case 1:
		db[i].Relation = []string{"core", "cache", "shares", "link", "memory", "device", "machine", "x"}[r.Intn(8)]
	case 2:
		db[i].Args = db[i].Args[:r.Intn(len(db[i].Args))]
	case 3:
		db[i].Args = append(db[i].Args, values[r.Intn(len(values))])
	case 4:
		db[i].Args[r.Intn(len(db[i].Args))] = values[r.Intn(len(values))]
	case 5:
		f := clone(db[i : i+1])[0]
		f.Args[r.Intn(len(f.Args))] = values[r.Intn(len(values))]
		return append(db, f)
	}
	if len(db[i].Args) == 0 {
		db[i].Args = []api.Value{values[r.Intn(len(values))]}
	}
	return db
}

// P4.5

func TestToHardwareUndoesFromHardware(t *testing.T) {
	r := rand.New(rand.NewSource(6))
	for range 500 {
		h := randomMachine(r)
		db, err := facts.FromHardware(h)
		if err != api.OK {
			t.Fatal(h, err)
		}
		checkSet(t, db, setOf(db))
		checkToHardware(t, db, hwdesc.Normalize(h))
		again, _ := facts.FromHardware(hwdesc.Normalize(h))
		checkSet(t, again, db)
	}
}

// randomMachine returns a valid description; its nodes are a chain in a random order.
func randomMachine(r *rand.Rand) api.Hardware {
	h := api.Hardware{Name: "m " + strings.Repeat("-", r.Intn(20))}
	nodes := r.Perm(api.MaxNodes)[:1+r.Intn(9)]
	node := func() int { return nodes[r.Intn(len(nodes))] }
	for i := range nodes[1:] {
		h.Links = append(h.Links, api.Link{A: nodes[i], B: nodes[i+1], Latency: 1 + r.Intn(api.MaxLatency)})
	}
	ids := r.Perm(api.MaxCores)[:1+r.Intn(api.MaxCores)]
	for _, id := range ids {
		h.Cores = append(h.Cores, api.Core{ID: id, Width: []int{32, 39}[r.Intn(2)], Node: node(), Speed: 1 + r.Intn(1000000)})
	}
	slices.Sort(ids)
	for level := 1; level <= 4 && r.Intn(4) > 0; level++ {
		for start := 0; start < len(ids); start += 1 << (2 * level) {
			cores := slices.Clone(ids[start:min(len(ids), start+1<<(2*level))])
			name := "c" + strings.Repeat("_", level) + strings.Repeat("x", start/4)
			h.Caches = append(h.Caches, api.Cache{Name: name, Level: level, Line: 16 << r.Intn(5), Size: 256 + r.Uint64()%(1<<39), Cores: cores})
		}
	}
	irqs := r.Perm(api.MaxIRQ)
	for i := range r.Intn(20) {
		base := uint64(irqs[i]) << 24
		h.Memories = append(h.Memories, api.Memory{Name: "a" + strings.Repeat("b", i), Base: base, Size: 4096 << r.Intn(11), Node: node(), Latency: 1 + r.Intn(api.MaxLatency)})
		h.Devices = append(h.Devices, api.Device{Name: "a" + strings.Repeat("b", i), Node: node(), IRQ: irqs[i], Base: base + 1<<23, Size: 4096 * uint64(1+r.Intn(2048))})
	}
	for range 9 {
		r.Shuffle(len(h.Caches), func(i, j int) { h.Caches[i], h.Caches[j] = h.Caches[j], h.Caches[i] })
		r.Shuffle(len(h.Links), func(i, j int) { h.Links[i], h.Links[j] = h.Links[j], h.Links[i] })
	}
	return h
}
