package hwdesc_test

import (
	"math"
	"math/rand"
	"strings"
	"testing"

	"multikernel/api"
	"multikernel/hwdesc"
)

// checkPrintable checks that h is printed and read back.
func checkPrintable(t *testing.T, h api.Hardware) {
	t.Helper()
	text := hwdesc.Format(h)
	if text == "" {
		t.Errorf("%v: not printed", h)
		return
	}
	checkParse(t, text, h)
}

func checkUnprintable(t *testing.T, h api.Hardware) {
	t.Helper()
	if text := hwdesc.Format(h); text != "" {
		t.Errorf("%q", text)
	}
}

// P3.3

func TestFormatSample(t *testing.T) {
	if got := hwdesc.Format(sample()); got != sampleText {
		t.Errorf("%q", got)
	}
}

func TestFormatEmptyMachine(t *testing.T) {
	for _, h := range []api.Hardware{{}, {Cores: []api.Core{}, Caches: []api.Cache{}, Links: []api.Link{}, Memories: []api.Memory{}, Devices: []api.Device{}}} {
		if got := hwdesc.Format(h); got != "machine \"\" {\n}\n" {
			t.Errorf("%q", got)
		}
	}
}

func TestFormatNumbersInDecimal(t *testing.T) {
	h := api.Hardware{Name: "m", Links: []api.Link{{A: 0, B: math.MaxInt32, Latency: 1 << 10}}, Memories: []api.Memory{{Name: "a", Base: math.MaxUint64, Size: 1 << 63}}}
	want := "machine \"m\" {\n\tlink 0 2147483647 { latency 1024; }\n\tmemory a { base 18446744073709551615; size 9223372036854775808; node 0; latency 0; }\n}\n"
	if got := hwdesc.Format(h); got != want {
		t.Errorf("%q", got)
	}
}

func TestFormatDoesNotValidate(t *testing.T) {
	h := api.Hardware{Cores: make([]api.Core, 40), Caches: []api.Cache{{Name: "a", Cores: []int{9, 9, 1}}, {Name: "a", Cores: []int{0}}}, Links: []api.Link{{A: 1, B: 1}}}
	checkPrintable(t, h)
}

func TestFormatMachineNames(t *testing.T) {
	for c := range 256 {
		h := sample()
		h.Name = "a" + string([]byte{byte(c)})
		if c >= 32 && c <= 126 && c != '"' && c != '\\' {
			checkPrintable(t, h)
		} else {
			checkUnprintable(t, h)
		}
	}
	h := sample()
	h.Name = strings.Repeat("{", api.MaxNameLen)
	checkPrintable(t, h)
	h.Name += "{"
	checkUnprintable(t, h)
}

func TestFormatItemNames(t *testing.T) {
	whole := sample()
	for i := range itemNames(&whole) {
		for _, name := range []string{"", "1", "a b", "a-b", "a\x00", "\xff", `"a"`, "a ", strings.Repeat("a", 25)} {
			h := sample()
			*itemNames(&h)[i] = name
			checkUnprintable(t, h)
		}
		for _, name := range []string{"_", "a1", "machine", strings.Repeat("a", 24)} {
			h := sample()
			*itemNames(&h)[i] = name
			checkPrintable(t, h)
		}
	}
}

func TestFormatSmallNumbers(t *testing.T) {
	whole := sample()
	for i := range smallFields(&whole) {
		for _, n := range []int{-1, math.MinInt32, math.MinInt, math.MaxInt32 + 1, math.MaxUint32 + 1, math.MaxInt} {
			h := sample()
			*smallFields(&h)[i] = n
			checkUnprintable(t, h)
		}
		for _, n := range []int{0, 1, math.MaxInt32} {
			h := sample()
			*smallFields(&h)[i] = n
			checkPrintable(t, h)
		}
	}
}

func TestFormatWideNumbers(t *testing.T) {
	whole := sample()
	for i := range wideFields(&whole) {
		for _, n := range []uint64{0, 1, 1 << 31, 1 << 63, math.MaxUint64} {
			h := sample()
			*wideFields(&h)[i] = n
			checkPrintable(t, h)
		}
	}
}

func TestFormatCacheWithoutCores(t *testing.T) {
	for i := range sample().Caches {
		for _, cores := range [][]int{nil, {}} {
			h := sample()
			h.Caches[i].Cores = cores
			checkUnprintable(t, h)
		}
	}
}

// P3.6

func TestParseOfFormat(t *testing.T) {
	r := rand.New(rand.NewSource(1))
	for range 2000 {
		h := randomPrintable(r)
		checkPrintable(t, h)
		if hwdesc.Format(h) != hwdesc.Format(clone(h)) {
			t.Fatal("two texts of", h)
		}
	}
}

func TestFormatOfLongTexts(t *testing.T) {
	h := api.Hardware{Name: "123456789", Cores: make([]api.Core, 1724)}
	if n := len(hwdesc.Format(h)); n != api.MaxTextLen {
		t.Fatal(n, "bytes")
	}
	checkPrintable(t, h)
	h.Name += "0"
	text := hwdesc.Format(h)
	if len(text) != api.MaxTextLen+1 || !strings.HasSuffix(text, "\tcore 0 { width 0; node 0; speed 0; }\n}\n") {
		t.Error(len(text), "bytes")
	}
	checkParseError(t, text, 0, 0, api.ErrLimit)
}

func TestFormatLeavesItsArgument(t *testing.T) {
	h := sample()
	hwdesc.Format(h)
	if !same(h, sample()) {
		t.Error(h)
	}
}
