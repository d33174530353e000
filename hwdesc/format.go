package hwdesc

import (
	"strconv"
	"strings"

	"multikernel/api"
	"multikernel/hwlex"
)

// Format returns the text of h, or the empty string if h is not printable.
func Format(h api.Hardware) string {
	name := quoted(h.Name)
	if name == "" {
		return ""
	}
	var text strings.Builder
	text.WriteString("machine " + name + " {\n")
	for _, it := range items(h) {
		if !it.printable() {
			return ""
		}
		text.WriteString("\t" + it.kind + it.head() + " {" + it.attributes() + " }\n")
	}
	text.WriteString("}\n")
	return text.String()
}

// quoted returns the name of a machine as a string, or the empty text if it cannot be one.
func quoted(name string) string {
	if len(name) > api.MaxNameLen {
		return ""
	}
	return hwlex.Format([]api.Token{{Kind: api.TokenString, Text: name}})
}

func (it item) printable() bool {
	if len(it.numbers) == 0 && !hwlex.IsName(it.name) {
		return false
	}
	for _, n := range it.numbers {
		if !fits("", n) {
			return false
		}
	}
	for i, word := range attributeWords(it.kind) {
		if len(it.values[i]) == 0 {
			return false
		}
		for _, v := range it.values[i] {
			if !fits(word, v) {
				return false
			}
		}
	}
	return true
}

func (it item) head() string {
	if len(it.numbers) == 0 {
		return " " + it.name
	}
	return " " + joined(it.numbers, " ")
}

func (it item) attributes() string {
	var text strings.Builder
	for i, word := range attributeWords(it.kind) {
		text.WriteString(" " + word + " " + joined(it.values[i], ", ") + ";")
	}
	return text.String()
}

func joined(numbers []uint64, separator string) string {
	var text strings.Builder
	for i, n := range numbers {
		if i > 0 {
			text.WriteString(separator)
		}
		text.WriteString(strconv.FormatUint(n, 10))
	}
	return text.String()
}
