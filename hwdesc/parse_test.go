package hwdesc_test

import (
	"strings"
	"testing"

	"multikernel/api"
	"multikernel/hwdesc"
	"multikernel/hwlex"
)

// within returns the text of a machine that has only these items; the first of them begins at column 15.
func within(items string) string { return `machine "m" { ` + items + ` }` }

// P3.1 and P3.2: what is parsed

func TestParseSample(t *testing.T) { checkParse(t, sampleText, sample()) }

func TestParseExample(t *testing.T) {
	want := api.Hardware{Name: "m", Cores: []api.Core{{ID: 0, Width: 32, Node: 0, Speed: 1}}}
	checkParse(t, `machine "m" { core 0 { width 32; node 0; speed 1; } }`, want)
	if err := hwdesc.Validate(want); err != api.OK {
		t.Error(err)
	}
	want.Cores[0].Width = 33
	checkParse(t, `machine "m" { core 0 { width 33; node 0; speed 1; } }`, want)
	if err := hwdesc.Validate(want); err != api.ErrRange {
		t.Error(err)
	}
}

func TestParseEmptyMachine(t *testing.T) {
	checkParse(t, `machine""{}`, api.Hardware{})
	checkParse(t, "#c\nmachine # c\n\"a # b\"\r\t{ } # }", api.Hardware{Name: "a # b"})
	checkParse(t, `machine "123456789012345678901234" {}`, api.Hardware{Name: "123456789012345678901234"})
}

func TestParseAttributesInAnyOrder(t *testing.T) {
	for _, c := range []struct {
		head, attributes string
		want             api.Hardware
	}{
		{"core 1", "width 2; node 3; speed 4;", api.Hardware{Cores: []api.Core{{ID: 1, Width: 2, Node: 3, Speed: 4}}}},
		{"cache a", "level 1; line 2; size 3; cores 4, 5;", api.Hardware{Caches: []api.Cache{{Name: "a", Level: 1, Line: 2, Size: 3, Cores: []int{4, 5}}}}},
		{"link 1 2", "latency 3;", api.Hardware{Links: []api.Link{{A: 1, B: 2, Latency: 3}}}},
		{"memory a", "base 1; size 2; node 3; latency 4;", api.Hardware{Memories: []api.Memory{{Name: "a", Base: 1, Size: 2, Node: 3, Latency: 4}}}},
		{"device a", "node 1; irq 2; base 3; size 4;", api.Hardware{Devices: []api.Device{{Name: "a", Node: 1, IRQ: 2, Base: 3, Size: 4}}}},
	} {
		c.want.Name = "m"
		for _, order := range permutations(strings.SplitAfter(strings.TrimSuffix(c.attributes, ";"), ";")) {
			checkParse(t, within(c.head+" {"+strings.Join(order, "; ")+"; }"), c.want)
		}
	}
}

// permutations returns all orders of the attributes, which lose the semicolons at their ends.
func permutations(list []string) [][]string {
	if len(list) == 0 {
		return [][]string{nil}
	}
	var all [][]string
	for i := range list {
		rest := append(append([]string{}, list[:i]...), list[i+1:]...)
		for _, p := range permutations(rest) {
			all = append(all, append(p, strings.TrimSuffix(list[i], ";")))
		}
	}
	return all
}

func TestParseKeepsOrderOfItems(t *testing.T) {
	src := within(`link 3 2 { latency 1; } device z { node 0; irq 0; base 0; size 0; } core 9 { width 0; node 0; speed 0; }
		memory z { base 0; size 0; node 0; latency 0; } link 3 2 { latency 0; } core 9 { width 1; node 0; speed 0; } cache z { level 0; line 0; size 0; cores 2, 1, 2; }
		memory a { base 0; size 0; node 0; latency 0; } core 1 { width 0; node 0; speed 0; } cache a { level 0; line 0; size 0; cores 0; } device a { node 0; irq 0; base 0; size 0; }`)
	checkParse(t, src, api.Hardware{
		Name:     "m",
		Cores:    []api.Core{{ID: 9}, {ID: 9, Width: 1}, {ID: 1}},
		Caches:   []api.Cache{{Name: "z", Cores: []int{2, 1, 2}}, {Name: "a", Cores: []int{0}}},
		Links:    []api.Link{{A: 3, B: 2, Latency: 1}, {A: 3, B: 2}},
		Memories: []api.Memory{{Name: "z"}, {Name: "a"}},
		Devices:  []api.Device{{Name: "z"}, {Name: "a"}},
	})
}

func TestParseNumbers(t *testing.T) {
	checkParse(t, within("core 0x1F { width 1K; node 2147483647; speed 2047M; }"),
		api.Hardware{Name: "m", Cores: []api.Core{{ID: 31, Width: 1024, Node: 1<<31 - 1, Speed: 2047 << 20}}})
	checkParse(t, within("link 2147483647 0x7fffffff { latency 1G; }"),
		api.Hardware{Name: "m", Links: []api.Link{{A: 1<<31 - 1, B: 1<<31 - 1, Latency: 1 << 30}}})
	checkParse(t, within("cache a { level 0; line 0; size 18446744073709551615; cores 2147483647, 0; }"),
		api.Hardware{Name: "m", Caches: []api.Cache{{Name: "a", Size: 1<<64 - 1, Cores: []int{1<<31 - 1, 0}}}})
	checkParse(t, within("memory a { base 0xffffffffffffffff; size 2G; node 0; latency 0; }"),
		api.Hardware{Name: "m", Memories: []api.Memory{{Name: "a", Base: 1<<64 - 1, Size: 1 << 31}}})
	checkParse(t, within("device a { base 2147483648; size 17179869183G; node 0; irq 0; }"),
		api.Hardware{Name: "m", Devices: []api.Device{{Name: "a", Base: 1 << 31, Size: 1<<64 - 1<<30}}})
}

func TestParseWordsOfTheGrammarAsNames(t *testing.T) {
	for _, name := range strings.Fields("machine core cache link memory device width node speed level line size cores latency base irq _ abcdefghijklmnopqrstuvwx") {
		checkParse(t, within("cache "+name+" { level 0; line 0; size 0; cores 0; } memory "+name+" { base 0; size 0; node 0; latency 0; } device "+name+" { node 0; irq 0; base 0; size 0; }"),
			api.Hardware{Name: "m", Caches: []api.Cache{{Name: name, Cores: []int{0}}}, Memories: []api.Memory{{Name: name}}, Devices: []api.Device{{Name: name}}})
	}
}

// P3.2: errors

func TestParseScanErrorsComeFirst(t *testing.T) {
	checkParseError(t, "x 12a", 1, 3, api.ErrSyntax)
	checkParseError(t, "machine m {\n \"", 2, 2, api.ErrSyntax)
	checkParseError(t, "x\n18446744073709551616", 2, 1, api.ErrRange)
	checkParseError(t, within("core 2G {} $"), 1, 26, api.ErrSyntax)
	for _, src := range []string{strings.Repeat(" ", api.MaxTextLen+1), sampleText + strings.Repeat("\n", api.MaxTextLen)} {
		checkParseError(t, src, 0, 0, api.ErrLimit)
	}
	checkParse(t, sampleText+strings.Repeat("\n", api.MaxTextLen-len(sampleText)), sample())
}

func TestParseSyntaxErrors(t *testing.T) {
	for _, c := range []struct {
		src  string
		line int
		col  int
	}{
		{"x", 1, 1}, {`"m" {}`, 1, 1}, {`"machine" "m" {}`, 1, 1}, {"{", 1, 1}, {"5", 1, 1}, {"Machine", 1, 1}, {"machines", 1, 1},
		{"machine m {}", 1, 9}, {"machine {}", 1, 9}, {"machine 5 {}", 1, 9}, {"machine machine", 1, 9},
		{`machine "m" "{" }`, 1, 13}, {`machine "m" }`, 1, 13}, {`machine "m" "m" {}`, 1, 13},
		{"machine \"m\"\n{}\n}", 3, 1}, {`machine "m" {} machine "m" {}`, 1, 16}, {`machine "m" {} ;`, 1, 16},
		{within("x"), 1, 15}, {within("5"), 1, 15}, {within(`"core" 1`), 1, 15}, {within("machine"), 1, 15}, {within(";"), 1, 15}, {within("{"), 1, 15}, {within("width 3;"), 1, 15},
		{within("core { }"), 1, 20}, {within("core x {}"), 1, 20}, {within("core - 1"), 1, 20}, {within(`core "1"`), 1, 20}, {within("core 1 2 {}"), 1, 22}, {within("core 1 ;"), 1, 22},
		{within("link 1 {}"), 1, 22}, {within("link 1, 2 {}"), 1, 21}, {within("link a b {}"), 1, 20}, {within("link 1 2 3 {}"), 1, 24},
		{within("cache 5 {}"), 1, 21}, {within("cache {}"), 1, 21}, {within(`cache "a" {}`), 1, 21}, {within("cache a b {}"), 1, 23}, {within("cache a 1 {}"), 1, 23},
		{within(`memory "a" {}`), 1, 22}, {within("memory 5 {}"), 1, 22}, {within(`device "a" {}`), 1, 22}, {within("device 5 {}"), 1, 22},
		{within("core 1 { 5; }"), 1, 24}, {within("core 1 { ; }"), 1, 24}, {within(`core 1 { "width" 5; }`), 1, 24}, {within("core 1 { { } }"), 1, 24},
		{within("core 1 { width; }"), 1, 29}, {within("core 1 { width x; }"), 1, 30}, {within("core 1 { width -1; }"), 1, 30}, {within("core 1 { width = 1; }"), 1, 30}, {within(`core 1 { width "1"; }`), 1, 30},
		{within("core 1 { width 32 }"), 1, 33}, {within("core 1 { width 32 node 0; }"), 1, 33}, {within("core 1 { width 32, 33; }"), 1, 32}, {within("core 1 { width 32, }"), 1, 32}, {within("core 1 { width 32 33; }"), 1, 33}, {within("core 1 { width 32;; }"), 1, 33},
		{within("cache a { cores; }"), 1, 30}, {within("cache a { cores ,1; }"), 1, 31}, {within("cache a { cores 1,; }"), 1, 33}, {within("cache a { cores 1,,2; }"), 1, 33}, {within("cache a { cores 1 2; }"), 1, 33}, {within("cache a { cores 1, x; }"), 1, 34}, {within("cache a { size 1, 2; }"), 1, 31},
	} {
		checkParseError(t, c.src, c.line, c.col, api.ErrSyntax)
	}
}

func TestParseAttributesOfOtherItems(t *testing.T) {
	sets := attributeSets()
	for kind, own := range sets {
		for _, words := range sets {
			for _, word := range words {
				src := within(heads()[kind] + " {\n" + word + " 1")
				if has(own, word) {
					checkParseError(t, src, 2, len(word)+4, api.ErrSyntax)
				} else {
					checkParseError(t, src, 2, 1, api.ErrSyntax)
				}
			}
		}
		for _, word := range []string{"x", "Width", "machine", "core", "a1234567890123456789012345"} {
			checkParseError(t, within(heads()[kind]+" {\n"+word+" 1; }"), 2, 1, api.ErrSyntax)
		}
	}
}

func TestParseMissingAttributes(t *testing.T) {
	for kind, words := range attributeSets() {
		for _, missing := range words {
			src := heads()[kind] + " { "
			for _, word := range words {
				if word != missing {
					src += word + " 1; "
				}
			}
			checkParseError(t, within(src+"}"), 1, 15+len(src), api.ErrSyntax)
		}
		checkParseError(t, within(heads()[kind]+" {\n}"), 2, 1, api.ErrSyntax)
	}
}

func TestParseDuplicateAttributes(t *testing.T) {
	for kind, words := range attributeSets() {
		src := heads()[kind] + " { "
		for _, word := range words {
			src += word + " 0; "
			checkParseError(t, within(src+word+" 1; }"), 1, 15+len(src), api.ErrDuplicate)
			checkParseError(t, within(src+word), 1, 15+len(src), api.ErrDuplicate)
		}
		for _, word := range words {
			checkParseError(t, within(src+word+" x"), 1, 15+len(src), api.ErrDuplicate)
		}
	}
	checkParse(t, within("link 1 2 { latency 1; } link 1 2 { latency 1; }"), api.Hardware{Name: "m", Links: []api.Link{{A: 1, B: 2, Latency: 1}, {A: 1, B: 2, Latency: 1}}})
}

func TestParseNumbersTooLarge(t *testing.T) {
	for _, number := range []string{"2147483648", "0x80000000", "2G", "18446744073709551615"} {
		checkParseError(t, within("core "+number), 1, 20, api.ErrRange)
		checkParseError(t, within("link "+number+" x"), 1, 20, api.ErrRange)
		checkParseError(t, within("link 1 "+number+" x"), 1, 22, api.ErrRange)
		for kind, words := range attributeSets() {
			for _, word := range words {
				src := heads()[kind] + " { " + word + " "
				if word == "base" || word == "size" {
					checkParseError(t, within(src+number+"\nx"), 2, 1, api.ErrSyntax)
				} else {
					checkParseError(t, within(src+number+" x"), 1, 15+len(src), api.ErrRange)
				}
			}
		}
		checkParseError(t, within("cache a { cores 1, "+number), 1, 34, api.ErrRange)
		checkParseError(t, within("cache a { "+number), 1, 25, api.ErrSyntax)
	}
}

func TestParseLongNames(t *testing.T) {
	const long = "abcdefghijklmnopqrstuvwxy"
	checkParseError(t, `machine "`+long+`" x`, 1, 9, api.ErrName)
	checkParseError(t, `machine "m" "`+long+`"`, 1, 13, api.ErrSyntax)
	for _, kind := range []string{"cache", "memory", "device"} {
		checkParseError(t, within(kind+" "+long+" x"), 1, 16+len(kind), api.ErrName)
		checkParseError(t, within(kind+" "+long+long), 1, 16+len(kind), api.ErrName)
		checkParseError(t, within(kind+` "`+long+`"`), 1, 16+len(kind), api.ErrSyntax)
	}
	checkParseError(t, within("core "+long), 1, 20, api.ErrSyntax)
	checkParseError(t, within(long), 1, 15, api.ErrSyntax)
	checkParseError(t, long, 1, 1, api.ErrSyntax)
}

func TestParseFirstErrorByPosition(t *testing.T) {
	checkParseError(t, within("core 2G { x }"), 1, 20, api.ErrRange)
	checkParseError(t, within("core 1 { width 1; width 2G; }"), 1, 33, api.ErrDuplicate)
	checkParseError(t, within("core 1 { width 2G; width 1; }"), 1, 30, api.ErrRange)
	checkParseError(t, within("core 1 { } core 2G"), 1, 24, api.ErrSyntax)
	checkParseError(t, `machine "1234567890123456789012345" { core 2G`, 1, 9, api.ErrName)
}

func TestParseTextThatEndsTooEarly(t *testing.T) {
	checkParseError(t, "", 1, 1, api.ErrSyntax)
	checkParseError(t, "  \n \n", 3, 1, api.ErrSyntax)
	checkParseError(t, "# machine", 1, 10, api.ErrSyntax)
	checkParseError(t, "machine", 1, 8, api.ErrSyntax)
	tokens, _, _ := hwlex.Scan(sampleText)
	for i := range tokens {
		src := hwlex.Format(tokens[:i])
		checkParseError(t, src, 1, len(src)+1, api.ErrSyntax)
		checkParseError(t, src+"\r ", 1, len(src)+3, api.ErrSyntax)
		checkParseError(t, src+"\n\n\t# c", 3, 5, api.ErrSyntax)
		checkParseError(t, src+"\n", 2, 1, api.ErrSyntax)
	}
	checkParse(t, hwlex.Format(tokens), sample())
}

func TestParseResultsShareNothing(t *testing.T) {
	a, _, _ := hwdesc.Parse(sampleText)
	for i := range a.Caches {
		a.Caches[i].Cores = append(a.Caches[i].Cores[:0], 77, 78, 79)
	}
	b, _, _ := hwdesc.Parse(sampleText)
	if !same(b, sample()) || a.Caches[1].Cores[0] != 77 || a.Caches[2].Cores[2] != 79 {
		t.Error(a, b)
	}
}

func attributeSets() map[string][]string {
	return map[string][]string{
		"core": {"width", "node", "speed"}, "cache": {"level", "line", "size", "cores"}, "link": {"latency"},
		"memory": {"base", "size", "node", "latency"}, "device": {"node", "irq", "base", "size"},
	}
}

func heads() map[string]string {
	return map[string]string{"core": "core 1", "cache": "cache a", "link": "link 1 2", "memory": "memory a", "device": "device a"}
}

func has(list []string, s string) bool {
	for _, x := range list {
		if x == s {
			return true
		}
	}
	return false
}
