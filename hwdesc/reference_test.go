package hwdesc_test

import (
	"math/rand"
	"regexp"
	"slices"
	"strings"
	"testing"

	"multikernel/api"
	"multikernel/hwdesc"
	"multikernel/hwlex"
)

// pattern is a regular expression for the sentences of a part of the grammar, and one for all their prefixes.
type pattern struct{ whole, prefix string }

func symbol(class string) pattern { return pattern{"[" + class + "]", "[" + class + "]?"} }

func sequence(parts ...pattern) pattern {
	p := parts[0]
	for _, q := range parts[1:] {
		p = pattern{p.whole + q.whole, "(?:" + p.whole + q.prefix + "|" + p.prefix + ")"}
	}
	return p
}

func choice(parts ...pattern) pattern {
	var p pattern
	for i, q := range parts {
		if i > 0 {
			p.whole, p.prefix = p.whole+"|", p.prefix+"|"
		}
		p.whole, p.prefix = p.whole+q.whole, p.prefix+q.prefix
	}
	return pattern{"(?:" + p.whole + ")", "(?:" + p.prefix + ")"}
}

func repetition(p pattern) pattern {
	return pattern{"(?:" + p.whole + ")*", "(?:" + p.whole + ")*" + p.prefix}
}

// words lists the words of the grammar; class gives each of them a letter, from A on.
var words = strings.Fields("machine core cache link memory device width node speed level line size cores latency base irq")

func class(list ...string) string {
	var s string
	for _, w := range list {
		s += string(rune('A' + slices.Index(words, w)))
	}
	return s
}

// letter encodes a token: a word of the grammar, another word, a number, a string or a punctuation mark.
func letter(t api.Token) string {
	switch t.Kind {
	case api.TokenWord:
		if slices.Contains(words, t.Text) {
			return class(t.Text)
		}
		return "w"
	case api.TokenNumber:
		return "n"
	case api.TokenString:
		return "s"
	}
	if strings.Contains("{},;", t.Text) {
		return t.Text
	}
	return "?"
}

func grammar() (whole, prefix *regexp.Regexp) {
	open, shut, number, word := symbol("{"), symbol("}"), symbol("n"), symbol("w"+class(words...))
	item := func(kind string, head ...pattern) pattern {
		var single []string
		attributes := []pattern{}
		for _, a := range attributeSets()[kind] {
			if a == "cores" {
				attributes = append(attributes, sequence(symbol(class(a)), number, repetition(sequence(symbol(","), number)), symbol(";")))
			} else {
				single = append(single, a)
			}
		}
		attributes = append(attributes, sequence(symbol(class(single...)), number, symbol(";")))
		parts := append([]pattern{symbol(class(kind))}, head...)
		return sequence(append(parts, open, repetition(choice(attributes...)), shut)...)
	}
	items := choice(item("core", number), item("cache", word), item("link", number, number), item("memory", word), item("device", word))
	p := sequence(symbol(class("machine")), symbol("s"), open, repetition(items), shut)
	whole, prefix = regexp.MustCompile("^(?:"+p.whole+")$"), regexp.MustCompile("^(?:"+p.prefix+")")
	prefix.Longest()
	return whole, prefix
}

// finding is an error at the token with that index; of several at one token the first in the list of P3.2 has the least rank.
type finding struct {
	at, rank int
	err      api.Errno
}

// findings lists the errors among the tokens that fit the grammar.
func findings(tokens []api.Token) []finding {
	var list []finding
	depth, kind, seen := 0, "", []string{}
	for i, t := range tokens {
		last := ""
		if i > 0 {
			last = tokens[i-1].Text
		}
		switch {
		case t.Kind == api.TokenPunct && t.Text == "{":
			depth, seen = depth+1, nil
		case t.Kind == api.TokenPunct && t.Text == "}":
			depth--
			if depth == 1 && len(seen) < len(attributeSets()[kind]) {
				list = append(list, finding{i, 1, api.ErrSyntax})
			}
		case t.Kind == api.TokenWord && depth == 2:
			if slices.Contains(seen, t.Text) {
				list = append(list, finding{i, 2, api.ErrDuplicate})
			} else {
				seen = append(seen, t.Text)
			}
		case t.Kind == api.TokenNumber && t.Value >= 1<<31 && last != "base" && last != "size":
			list = append(list, finding{i, 3, api.ErrRange})
		case t.Kind == api.TokenWord && depth == 1 && (last == "{" || last == "}"):
			kind = t.Text
		case (t.Kind == api.TokenWord || t.Kind == api.TokenString) && len(t.Text) > 24:
			list = append(list, finding{i, 4, api.ErrName})
		}
	}
	return list
}

// build returns the description of tokens without an error.
func build(tokens []api.Token) api.Hardware {
	h := api.Hardware{Name: tokens[1].Text}
	for i := 3; i < len(tokens)-1; {
		head, values := i, map[string][]int{}
		end := i + slices.IndexFunc(tokens[i:], func(t api.Token) bool { return t.Kind == api.TokenPunct && t.Text == "}" })
		open := i + slices.IndexFunc(tokens[i:], func(t api.Token) bool { return t.Kind == api.TokenPunct && t.Text == "{" })
		word := ""
		for _, t := range tokens[open:end] {
			if t.Kind == api.TokenWord {
				word = t.Text
			} else if t.Kind == api.TokenNumber {
				values[word] = append(values[word], int(t.Value)) // base and size are converted back below
			}
		}
		one := func(word string) int { return values[word][0] }
		name, n := tokens[head+1].Text, int(tokens[head+1].Value)
		switch tokens[head].Text {
		case "core":
			h.Cores = append(h.Cores, api.Core{ID: n, Width: one("width"), Node: one("node"), Speed: one("speed")})
		case "cache":
			h.Caches = append(h.Caches, api.Cache{Name: name, Level: one("level"), Line: one("line"), Size: uint64(one("size")), Cores: values["cores"]})
		case "link":
			h.Links = append(h.Links, api.Link{A: n, B: int(tokens[head+2].Value), Latency: one("latency")})
		case "memory":
			h.Memories = append(h.Memories, api.Memory{Name: name, Base: uint64(one("base")), Size: uint64(one("size")), Node: one("node"), Latency: one("latency")})
		case "device":
			h.Devices = append(h.Devices, api.Device{Name: name, Node: one("node"), IRQ: one("irq"), Base: uint64(one("base")), Size: uint64(one("size"))})
		}
		i = end + 1
	}
	return h
}

// reference parses a text whose tokens are known to be scanned without an error.
func reference(whole, prefix *regexp.Regexp, src string) (api.Hardware, api.Pos, api.Errno) {
	tokens, _, _ := hwlex.Scan(src)
	var letters string
	for _, t := range tokens {
		letters += letter(t)
	}
	fitting := len(prefix.FindString(letters))
	list := findings(tokens[:fitting])
	if !whole.MatchString(letters) {
		list = append(list, finding{fitting, 1, api.ErrSyntax})
	}
	if len(list) == 0 {
		return build(tokens), api.Pos{}, api.OK
	}
	first := slices.MinFunc(list, func(a, b finding) int { return (a.at-b.at)*10 + a.rank - b.rank })
	if first.at < len(tokens) {
		return api.Hardware{}, tokens[first.at].Pos, first.err
	}
	lines := strings.Split(src, "\n")
	return api.Hardware{}, api.Pos{Line: len(lines), Col: len(lines[len(lines)-1]) + 1}, first.err
}

// vocabulary returns tokens of all kinds that matter to the parser, as they are written.
func vocabulary() []string {
	list := append([]string{}, words...)
	list = append(list, "x", "Core", strings.Repeat("n", 24), strings.Repeat("n", 25), "0", "1", "32", "4096", "2147483647", "2147483648", "0x7fffffffffffffff")
	return append(list, `""`, `"m"`, `"{"`, `"core"`, `"`+strings.Repeat("s", 25)+`"`, "{", "}", ",", ";", "..", "-")
}

// pieces returns the tokens of a text as they are written.
func pieces(src string) []string {
	tokens, _, _ := hwlex.Scan(src)
	var list []string
	for _, t := range tokens {
		list = append(list, hwlex.Format([]api.Token{t}))
	}
	return list
}

func TestParseAgainstReference(t *testing.T) {
	whole, prefix := grammar()
	accepted := 0
	check := func(parts []string, separator string) {
		t.Helper()
		src := strings.Join(parts, separator)
		got, pos, err := hwdesc.Parse(src)
		want, wantPos, wantErr := reference(whole, prefix, src)
		if err != wantErr || pos != wantPos || !same(got, want) {
			t.Fatalf("%q: %v, error %d at %v, want %v, %d at %v", src, got, err, pos, want, wantErr, wantPos)
		}
		if err == api.OK {
			accepted++
		}
	}
	base := pieces(`machine "m" { core 1 { width 1; node 1; speed 1; } cache a { level 1; line 1; size 1; cores 1, 2; }
		link 1 2 { latency 1; } memory a { base 1; size 1; node 1; latency 1; } device a { node 1; irq 1; base 1; size 1; } }`)
	check(base, " ")
	for i := range len(base) + 1 {
		for _, word := range vocabulary() {
			check(slices.Insert(slices.Clone(base), i, word), " ")
			if i < len(base) {
				check(slices.Replace(slices.Clone(base), i, i+1, word), " ")
			}
		}
		if i < len(base) {
			check(slices.Delete(slices.Clone(base), i, i+1), "\n")
		}
	}
	r := rand.New(rand.NewSource(3))
	for range 3000 {
		parts := pieces(hwdesc.Format(randomPrintable(r)))
		for range r.Intn(3) {
			edit(r, &parts)
		}
		check(parts, []string{" ", "\n", "\t# c\n"}[r.Intn(3)])
	}
	if accepted < 500 {
		t.Error("only", accepted, "texts had no error")
	}
}

// edit changes one place of a text.
func edit(r *rand.Rand, parts *[]string) {
	list := vocabulary()
	word, i, j := list[r.Intn(len(list))], r.Intn(len(*parts)), r.Intn(len(*parts))
	switch r.Intn(5) {
	case 0:
		*parts = slices.Insert(*parts, i, word)
	case 1:
		(*parts)[i] = word
	case 2:
		(*parts)[i], (*parts)[j] = (*parts)[j], (*parts)[i]
	case 3:
		(*parts)[i] = (*parts)[j]
	case 4:
		if len(*parts) > 1 {
			*parts = slices.Delete(*parts, i, i+1)
		}
	}
}
