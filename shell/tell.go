package shell

import (
	"strconv"
	"strings"

	"bollard/api"
)

// What stands in scripts and in answers.
const (
	blank   = " "  // between words
	end     = "\n" // of a line
	equals  = "="  // between a key and a value
	nothing = "-"  // for a key or a value that is none
	fine    = "ok"
	digits  = "0123456789abcdef"
)

// joined is words as a line.
func joined(words ...string) string {
	return strings.Join(words, blank) + end
}

// counted is a word, and numbers behind it.
func counted(word string, numbers ...int) string {
	words := []string{word}
	for _, n := range numbers {
		words = append(words, strconv.Itoa(n))
	}
	return joined(words...)
}

// refused is why something is.
func refused(e api.Errno) string {
	return counted("error", int(e))
}

// truth is whether something was done.
func truth(done bool) string {
	return joined(strconv.FormatBool(done))
}

// hexadecimal is a word, and bytes behind it, if there are any.
func hexadecimal(word string, b []byte) string {
	if len(b) == 0 {
		return joined(word)
	}
	text := make([]byte, 0, 2*len(b))
	for _, c := range b {
		text = append(text, digits[c>>4], digits[c&15])
	}
	return joined(word, string(text))
}

// answered is what a response tells.
func answered(r api.Response) string {
	if r.Code != api.OK {
		return refused(r.Code)
	}
	switch r.Kind {
	case api.ReqTopics:
		return counted(fine) + topics(r)
	case api.ReqAppend, api.ReqList:
		return counted(fine, r.Offset, r.Start, r.Next)
	case api.ReqFetch:
		return counted(fine, r.Start, r.Next) + records(r.Batches)
	case api.ReqOffset:
		return counted(fine, r.Offset)
	}
	return counted(fine)
}

// topics is a line for each.
func topics(r api.Response) string {
	var lines strings.Builder
	for i, name := range r.Topics {
		lines.WriteString(joined("topic", name, strconv.Itoa(r.Parts[i])))
	}
	return lines.String()
}

// records is a line for each.
func records(batches []api.Batch) string {
	var lines strings.Builder
	for _, b := range batches {
		for _, r := range b.Records {
			pair := side(r.HasKey, r.Key) + equals + side(r.HasVal, r.Val)
			lines.WriteString(joined(strconv.Itoa(b.Base+r.Off), strconv.Itoa(r.Time), pair))
		}
	}
	return lines.String()
}

// side is a key or a value, or the sign that there is none.
func side(has bool, text string) string {
	if has {
		return text
	}
	return nothing
}
