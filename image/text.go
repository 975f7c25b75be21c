package image

import "inlay/api"

// maxDigits is how long the numbers of a line may be: enough for every place of the largest image.
const maxDigits = 5

const codeWord = "code"

// Print returns the text of a valid list of sections.
func Print(l []api.Section) string {
	var text []byte
	for _, s := range l {
		text = append(text, s.Name...)
		text = appendNumber(append(text, ' '), s.From)
		text = appendNumber(append(text, ' '), s.To)
		if s.Code {
			text = append(text, " "+codeWord...)
		}
		text = append(text, '\n')
	}
	return string(text)
}

// Parse returns the list of sections with the text s. The form of all lines is checked before what they
// say, because ErrForm comes before ErrImage.
func Parse(s string) ([]api.Section, api.Errno) {
	var l []api.Section
	read := func(line string) bool {
		x, ok := parseLine(line)
		l = append(l, x)
		return ok
	}
	if !eachLine(s, read) {
		return nil, api.ErrForm
	}
	if !Valid(l, api.MaxImage) {
		return nil, api.ErrImage
	}
	return l, api.OK
}

// eachLine gives the lines of s, without their newlines, to read, until it returns false. It reports
// whether read accepted all of them, and nothing comes after the last newline.
func eachLine(s string, read func(line string) bool) bool {
	from := 0
	for i, c := range s {
		if c != '\n' {
			continue
		}
		if !read(s[from:i]) {
			return false
		}
		from = i + 1
	}
	return from == len(s)
}

// parseLine reads the line of a section, whose name may still be any text without spaces.
func parseLine(line string) (api.Section, bool) {
	words := splitWords(line)
	code := len(words) == 4 && words[3] == codeWord
	if len(words) != 3 && !code || words[0] == "" {
		return api.Section{}, false
	}
	from, fromOK := parseNumber(words[1])
	to, toOK := parseNumber(words[2])
	if !fromOK || !toOK {
		return api.Section{}, false
	}
	return api.Section{Name: words[0], From: from, To: to, Code: code}, true
}

// splitWords returns what stands between the single spaces of line; words may be empty.
func splitWords(line string) []string {
	var words []string
	from := 0
	for i, c := range line {
		if c == ' ' {
			words = append(words, line[from:i])
			from = i + 1
		}
	}
	return append(words, line[from:])
}

func parseNumber(s string) (int, bool) {
	if len(s) < 1 || len(s) > maxDigits || len(s) > 1 && s[0] == '0' {
		return 0, false
	}
	n := 0
	for _, c := range s {
		if !isDigit(c) {
			return 0, false
		}
		n = 10*n + int(c-'0')
	}
	return n, true
}

func appendNumber(text []byte, n int) []byte {
	if n >= 10 {
		text = appendNumber(text, n/10)
	}
	return append(text, byte('0'+n%10))
}
