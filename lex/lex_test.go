package lex_test

import (
	"math"
	"regexp"
	"slices"
	"strings"
	"testing"
	"unsafe"

	"treadwheel/api"
	"treadwheel/lex"
	"treadwheel/num"
)

func tok(kind int, text string) api.Token { return api.Token{Kind: kind, Text: text, Line: 1} }

func numTok(text string, n api.Num) api.Token {
	return api.Token{Kind: api.TNum, Text: text, Num: n, Line: 1}
}

func flt(f float64) api.Num { return api.Num{Float: true, Bits: math.Float64bits(f)} }

// on is a token, but on another line.
func on(line int, t api.Token) api.Token {
	t.Line = line
	return t
}

func wantTokens(t *testing.T, s string, want ...api.Token) {
	t.Helper()
	got, e, line := lex.Lex(s)
	if !slices.Equal(got, want) || e != api.OK || line != 0 {
		t.Errorf("Lex(%.60q) = %v, %d, %d; want %v", s, got, e, line, want)
	}
}

func wantError(t *testing.T, s string, e api.Errno, line int) {
	t.Helper()
	got, f, at := lex.Lex(s)
	if len(got) != 0 || f != e || at != line {
		t.Errorf("Lex(%.60q) = %.5v, %d, %d; want %d, %d", s, got, f, at, e, line)
	}
}

var (
	words = []string{"let", "in", "case", "of", "data"}
	backs = []string{"weak", "deref", "seq", "float", "trunc"}
	ops   = []string{"+", "-", "*", "/", "%", "==", "<", "+.", "-.", "*.", "/.", "==.", "<."}
	marks = []string{"(", ")", "{", "}", ";", "=", "->", `\`}
)

// inRuns is all bytes of runs, with the kinds of the runs that begin with them.
func inRuns() map[byte]int {
	kinds := map[byte]int{'_': 0}
	for c := byte('a'); c <= 'z'; c++ {
		kinds[c], kinds[c-'a'+'A'] = api.TName, api.TCon
	}
	for c := byte('0'); c <= '9'; c++ {
		kinds[c] = api.TNum
	}
	return kinds
}

func TestP71Example(t *testing.T) {
	wantTokens(t, "f x=x+.#-1--y",
		tok(api.TName, "f"), tok(api.TName, "x"), tok(api.TPunct, "="), tok(api.TName, "x"), tok(api.TOp, "+."), numTok("#-1", num.Int(-1)))
}

func TestP71NoTokens(t *testing.T) {
	for _, s := range []string{"", " ", "\t\n\r ", "--", "---", "-- a", "--\n", "--_ .\n\t--#", "-->", "--.", "--\x00\xff"} {
		wantTokens(t, s)
	}
}

func TestP71Words(t *testing.T) {
	for kind, list := range map[int][]string{api.TWord: words, api.TBack: backs} {
		for _, s := range list {
			wantTokens(t, s, tok(kind, s))
			wantTokens(t, s+" "+s, tok(kind, s), tok(kind, s))
			// A word is the whole run, byte by byte.
			for _, x := range []string{s + "s", s + "_", s + "0", "a" + s, s + s, s[:len(s)-1], s[:1], s[:1] + strings.ToUpper(s[1:])} {
				wantTokens(t, x, tok(api.TName, x))
			}
			for _, x := range []string{strings.ToUpper(s), strings.ToUpper(s[:1]) + s[1:], "A" + s} {
				wantTokens(t, x, tok(api.TCon, x))
			}
			wantError(t, "_"+s, api.ErrForm, 1)
			wantError(t, "0"+s, api.ErrForm, 1)
			wantError(t, "#"+s, api.ErrForm, 1)
		}
	}
}

func TestP71Runs(t *testing.T) {
	for c, kind := range inRuns() {
		s := string(c)
		switch kind {
		case api.TName, api.TCon:
			wantTokens(t, s, tok(kind, s))
			wantTokens(t, s+"__", tok(kind, s+"__"))
			wantTokens(t, s+"0_aZ", tok(kind, s+"0_aZ"))
			wantTokens(t, ";"+s+";", tok(api.TPunct, ";"), tok(kind, s), tok(api.TPunct, ";"))
			wantError(t, "1"+s, api.ErrForm, 1)
			wantError(t, "#"+s, api.ErrForm, 1)
			wantError(t, "#-"+s, api.ErrForm, 1)
		case api.TNum:
			wantTokens(t, s, numTok(s, num.Int(int64(c-'0'))))
			wantTokens(t, "#"+s, numTok("#"+s, num.Int(int64(c-'0'))))
		}
		// Within a run each of them goes on.
		wantTokens(t, "a"+s+"b", tok(api.TName, "a"+s+"b"))
		wantTokens(t, "A"+s, tok(api.TCon, "A"+s))
	}
	wantTokens(t, "aB Ab a_ A_1", tok(api.TName, "aB"), tok(api.TCon, "Ab"), tok(api.TName, "a_"), tok(api.TCon, "A_1"))
}

func TestP71Numbers(t *testing.T) {
	for text, n := range map[string]api.Num{
		"0": num.Int(0), "7": num.Int(7), "10": num.Int(10), "1234567890123456789": num.Int(1234567890123456789),
		"9223372036854775807": num.Int(math.MaxInt64),
		"0f0000000000000000":  flt(0), "0f3ff8000000000000": flt(1.5), "0fbff8000000000000": flt(-1.5), "0ffff0000000000000": flt(math.Inf(-1)),
		"0f7ff8000000000000": {Float: true, Bits: 0x7ff8000000000000}, "0f7ff0000000000001": {Float: true, Bits: 0x7ff0000000000001}, "0fffffffffffffffff": {Float: true, Bits: math.MaxUint64},
	} {
		wantTokens(t, text, numTok(text, n))
		wantTokens(t, "#"+text, numTok("#"+text, n))
		wantTokens(t, text+"#"+text, numTok(text, n), numTok("#"+text, n))
		wantTokens(t, "-"+text, tok(api.TOp, "-"), numTok(text, n))
		wantError(t, "0"+text, api.ErrForm, 1)
		wantError(t, text+"a_", api.ErrForm, 1)
		wantError(t, text+"_", api.ErrForm, 1)
	}
	for text, n := range map[string]int64{"#-1": -1, "#-10": -10, "#-9223372036854775807": -math.MaxInt64, "#-9223372036854775808": math.MinInt64} {
		wantTokens(t, text, numTok(text, num.Int(n)))
		wantTokens(t, "1"+text+text, numTok("1", num.Int(1)), numTok(text, num.Int(n)), numTok(text, num.Int(n)))
	}
}

func TestP71NumberErrors(t *testing.T) {
	for _, s := range []string{
		"00", "007", "01", "1a", "1_", "0x10", "1e3", "0f", "0F3ff0000000000000", "0f3ff", "0f3ff00000000000000", "0f3FF0000000000000", "0f3ff000000000000_", "99999999999999999999x",
		"#00", "#01", "#a", "#A", "#_", "#_1", "#1_", "#let", "#f0", "#0f", "#-0", "#-00", "#-01", "#-a", "#-_", "#-0f3ff0000000000000", "#-1a", "#-in",
		strings.Repeat("0", 100000), strings.Repeat("9", 100000) + "a", "#-" + strings.Repeat("0", 100000),
	} {
		wantError(t, s, api.ErrForm, 1)
		wantError(t, "a\n\n"+s+"\n", api.ErrForm, 3)
	}
	for _, s := range []string{
		"9223372036854775808", "9223372036854775809", "18446744073709551616", "99999999999999999999", "#9223372036854775808", "#-9223372036854775809", "#-99999999999999999999",
		strings.Repeat("9", 100000), "#" + strings.Repeat("9", 100000), "#-1" + strings.Repeat("0", 100000),
	} {
		wantError(t, s, api.ErrRange, 1)
		wantError(t, "a\n\n"+s+"\n", api.ErrRange, 3)
	}
}

func TestP71MarkAlone(t *testing.T) {
	for _, s := range []string{
		"#", "# 1", "#\n1", "#\t", "##1", "#;", "#(1)", "#+1", "#.", "#\xff1", "#\u0661",
		"#-", "#- 1", "#-\n1", "#-#1", "#-;", "#->", "#-.1", "#-+1", "#--5", "#--", "#---1\n", "#-\x00",
	} {
		wantError(t, s, api.ErrForm, 1)
		wantError(t, "a\n"+s, api.ErrForm, 2)
	}
}

func TestP71Signs(t *testing.T) {
	for kind, list := range map[int][]string{api.TOp: ops, api.TPunct: marks} {
		for _, s := range list {
			wantTokens(t, s, tok(kind, s))
			wantTokens(t, "a"+s+"b", tok(api.TName, "a"), tok(kind, s), tok(api.TName, "b"))
			wantTokens(t, "1"+s+"2", numTok("1", num.Int(1)), tok(kind, s), numTok("2", num.Int(2)))
			wantTokens(t, s+";"+s, tok(kind, s), tok(api.TPunct, ";"), tok(kind, s))
		}
	}
}

func TestP71LongestSign(t *testing.T) {
	for s, want := range map[string]string{
		"===": "==|=", "====": "==|==", "==.=": "==.|=", "==.==": "==.|==", "=->": "=|->", "==->": "==|->",
		"->-": "->|-", "->->": "->|->", "-=": "-|=", "-==": "-|==", "-<": "-|<", "-.-": "-.|-", "-.->": "-.|->",
		"<-": "<|-", "<->": "<|->", "<=": "<|=", "<==": "<|==", "<.<": "<.|<", "<<.": "<|<.",
		"+-": "+|-", "+.-.": "+.|-.", "++.": "+|+.", "*/": "*|/", "/*": "/|*", "*.*": "*.|*", "%+.": "%|+.", "%%": "%|%",
		`\\`: `\|\`, "(){};=": "(|)|{|}|;|=", `\->`: `\|->`,
	} {
		got, e, line := lex.Lex(s)
		var texts []string
		for _, x := range got {
			texts = append(texts, x.Text)
		}
		if strings.Join(texts, "|") != want || e != api.OK || line != 0 {
			t.Errorf("Lex(%q) = %v, %d, %d; want %s", s, got, e, line, want)
		}
	}
	for _, s := range []string{"%.", "=.", "===.", "->.", ";.", "(.", "+..", "==..", "<..", "1.5", "a.b", "A.b", ".+", "..", "-..", "=>.", "<>"} {
		wantError(t, s, api.ErrForm, 1)
	}
}

// A remark goes ahead of operators, wherever two minuses stand on end.
func TestP71Remarks(t *testing.T) {
	for _, s := range []string{"a--", "a--b", "a---", "a-->b", "a--.1", "a ---->", "a--\r", "a--#", "a---- --\n--", "a--\n", "\n--\na--_"} {
		got, e, _ := lex.Lex(s)
		if len(got) != 1 || got[0].Text != "a" || e != api.OK {
			t.Errorf("Lex(%q) = %v, %d", s, got, e)
		}
	}
	wantTokens(t, "a->--b\n-", tok(api.TName, "a"), tok(api.TPunct, "->"), on(2, tok(api.TOp, "-")))
	wantTokens(t, "-.--b\n-.", tok(api.TOp, "-."), on(2, tok(api.TOp, "-.")))
	wantTokens(t, "- -1", tok(api.TOp, "-"), tok(api.TOp, "-"), numTok("1", num.Int(1)))
	wantTokens(t, "-\n-", tok(api.TOp, "-"), on(2, tok(api.TOp, "-")))
	wantTokens(t, "-#-1", tok(api.TOp, "-"), numTok("#-1", num.Int(-1)))
	wantTokens(t, "#-1--1\n2", numTok("#-1", num.Int(-1)), on(2, numTok("2", num.Int(2))))
	// Only a byte 10 ends a line.
	for _, c := range []string{"\r", "\v", "\f", "\x00", "\u0085", "\u2028", "\\", ";"} {
		wantTokens(t, "a--b"+c+"c\nd", tok(api.TName, "a"), on(2, tok(api.TName, "d")))
	}
}

// Bytes with which no token begins, and that part none.
func TestP71OtherBytes(t *testing.T) {
	begins := inRuns()
	delete(begins, '_')
	for _, s := range slices.Concat(ops, marks, []string{"\t", "\n", "\r", " "}) {
		begins[s[0]] = 0
	}
	wrong := 0
	for c := range 256 {
		s := string([]byte{byte(c)})
		if _, ok := begins[byte(c)]; ok {
			if _, e, line := lex.Lex(s); e != api.OK || line != 0 {
				t.Errorf("Lex(%q) answers %d, %d", s, e, line)
			}
			continue
		}
		wrong++
		wantError(t, s, api.ErrForm, 1)
		wantError(t, s+s, api.ErrForm, 1)
		wantError(t, ";\n"+s+"\n;", api.ErrForm, 2)
		wantError(t, "\r\n\n "+s+"a", api.ErrForm, 3)
		if c != '_' {
			wantError(t, "a"+s, api.ErrForm, 1)
			wantError(t, "Let"+s+"a", api.ErrForm, 1)
		}
	}
	if want := 256 - 62 - len("+-*/%=<") - len(`(){};\`) - 4; wrong != want {
		t.Errorf("%d bytes were tried; want %d", wrong, want)
	}
	for _, s := range []string{"\u00e9", "\u03bb", "\u00a0", "\ufeff", "\u2192", "\u0661", "\uff41", "a\u00e9", "\xc3", "x'", "\"a\"", "a,b", "[a]", "a|b", "_", "__", "_1", "_a", "a _"} {
		wantError(t, s, api.ErrForm, 1)
	}
}

func TestP71Long(t *testing.T) {
	for _, first := range []string{"a", "z", "A", "Z"} {
		for _, more := range []string{"b", "_", "0", "Z"} {
			kind := inRuns()[first[0]]
			good := first + strings.Repeat(more, 15)
			wantTokens(t, good, tok(kind, good))
			wantTokens(t, good+"("+good, tok(kind, good), tok(api.TPunct, "("), tok(kind, good))
			for _, n := range []int{16, 17, 31, 256, 65536, 100000} {
				wantError(t, first+strings.Repeat(more, n), api.ErrLong, 1)
				wantError(t, "a\n"+first+strings.Repeat(more, n)+"\n_", api.ErrLong, 2)
			}
		}
	}
	wantError(t, "let"+strings.Repeat("t", 14), api.ErrLong, 1)
	// No name: what is no token is no long one, and numbers may be longer.
	wantError(t, strings.Repeat("_", 17), api.ErrForm, 1)
	wantError(t, "_"+strings.Repeat("a", 17), api.ErrForm, 1)
	wantError(t, "1"+strings.Repeat("a", 17), api.ErrForm, 1)
	wantError(t, "#"+strings.Repeat("a", 17), api.ErrForm, 1)
	wantTokens(t, "1000000000000000000", numTok("1000000000000000000", num.Int(1e18)))
}

func TestP71First(t *testing.T) {
	for _, x := range []struct {
		s    string
		e    api.Errno
		line int
	}{
		{"a\n_\nabcdefghijklmnopq", api.ErrForm, 2}, {"a\nabcdefghijklmnopq\n_", api.ErrLong, 2}, {"9223372036854775808\n007", api.ErrRange, 1}, {"007\n9223372036854775808", api.ErrForm, 1},
		{"abcdefghijklmnopq'", api.ErrLong, 1}, {"Abcdefghijklmnopq 9223372036854775808", api.ErrLong, 1}, {"9223372036854775808.", api.ErrRange, 1}, {"#.abcdefghijklmnopq", api.ErrForm, 1},
		{"--_\n\n'--\n#", api.ErrForm, 3}, {"--\n--\n--\n--#\n\n#", api.ErrForm, 6},
	} {
		wantError(t, x.s, x.e, x.line)
	}
}

func TestP71Full(t *testing.T) {
	for _, piece := range []string{"x ", ";", "1 ", "Cons\n", "+", "#1", "let\r", "seq--\n"} {
		all := strings.Repeat(piece, api.MaxTokens)
		line := 1 + strings.Count(all, "\n")
		got, e, at := lex.Lex(all)
		if len(got) != 4096 || e != api.OK || at != 0 {
			t.Errorf("%d of %q: %d tokens, %d, %d", api.MaxTokens, piece, len(got), e, at)
		}
		if got, e, _ := lex.Lex(all + "\n\t--;\n"); len(got) != 4096 || e != api.OK { // no more tokens in it
			t.Errorf("%q: %d tokens, %d", piece, len(got), e)
		}
		wantError(t, all+"\n"+piece, api.ErrFull, line+1)
		wantError(t, all+" ; _", api.ErrFull, line)
		wantError(t, all+"\n;\n_\n"+all, api.ErrFull, line+1)
		// What else is wrong of that one goes ahead.
		wantError(t, all+"\n_", api.ErrForm, line+1)
		wantError(t, all+"\n#", api.ErrForm, line+1)
		wantError(t, all+" abcdefghijklmnopq", api.ErrLong, line)
		wantError(t, all+" 9223372036854775808", api.ErrRange, line)
		wantError(t, all+" 007", api.ErrForm, line)
		wantError(t, "."+all+all, api.ErrForm, 1)
	}
}

func TestP71Lines(t *testing.T) {
	wantTokens(t, "\n\na\r\n b\n\n\n--\n--\n\tc d", on(3, tok(api.TName, "a")), on(4, tok(api.TName, "b")), on(9, tok(api.TName, "c")), on(9, tok(api.TName, "d")))
	wantTokens(t, strings.Repeat("\n", 100000)+"a", on(100001, tok(api.TName, "a")))
	wantTokens(t, strings.Repeat("--\n", 100000)+"a", on(100001, tok(api.TName, "a")))
	wantTokens(t, "a\rb\r\rc", tok(api.TName, "a"), tok(api.TName, "b"), tok(api.TName, "c"))
	wantTokens(t, "--"+strings.Repeat("-", 100000)+"\na", on(2, tok(api.TName, "a")))
}

func TestP71NewMemory(t *testing.T) {
	source := []byte("f x = let Con = #-1 in 0f3ff8000000000000 +. weak")
	s := string(source)
	first, _, _ := lex.Lex(s)
	begin := uintptr(unsafe.Pointer(unsafe.StringData(s)))
	for _, x := range first {
		if at := uintptr(unsafe.Pointer(unsafe.StringData(x.Text))); at >= begin && at < begin+uintptr(len(s)) {
			t.Errorf("%q is a piece of the source", x.Text)
		}
	}
	kept := slices.Clone(first)
	second, _, _ := lex.Lex(s)
	for i := range second {
		second[i] = api.Token{}
	}
	_ = append(second[:0], api.Token{})
	if third, _, _ := lex.Lex(s); !slices.Equal(first, kept) || !slices.Equal(third, kept) || s != string(source) {
		t.Error(first, third, s)
	}
}

// The chapter's words as patterns: what parts, and what a token may be. Of each
// the longest is meant.
var (
	parting = longest(`[\t\n\r ]|--[^\n]*`)
	sound   = longest(`[A-Za-z0-9][A-Za-z0-9_]*|#-?[A-Za-z0-9_]+|[-+*/<]\.?|%|==\.?|[(){};=\\]|->`)
	intForm = regexp.MustCompile(`^#?(0|[1-9][0-9]*)$|^#-[1-9][0-9]*$`)
	fltForm = regexp.MustCompile(`^#?0f[0-9a-f]{16}$`)
)

func longest(pattern string) *regexp.Regexp {
	r := regexp.MustCompile(`^(?:` + pattern + `)`)
	r.Longest()
	return r
}

// kindOf is a sound token's kind, or an error; of numbers with few digits.
func kindOf(text string) (int, api.Errno) {
	kind := inRuns()[text[0]]
	switch {
	case slices.Contains(words, text):
		return api.TWord, api.OK
	case slices.Contains(backs, text):
		return api.TBack, api.OK
	case slices.Contains(ops, text):
		return api.TOp, api.OK
	case slices.Contains(marks, text):
		return api.TPunct, api.OK
	case text[0] != '#' && kind != api.TNum && len(text) > 16:
		return 0, api.ErrLong
	case text[0] != '#' && kind != api.TNum:
		return kind, api.OK
	case intForm.MatchString(text) || fltForm.MatchString(text):
		return api.TNum, api.OK
	}
	return 0, api.ErrForm
}

// model is Lex by the patterns, of few tokens, but for their numbers.
func model(s string) ([]api.Token, api.Errno, int) {
	var tokens []api.Token
	for at := 0; at < len(s); {
		line := 1 + strings.Count(s[:at], "\n")
		if n := len(parting.FindString(s[at:])); n > 0 {
			at += n
			continue
		}
		text := sound.FindString(s[at:])
		if text == "" {
			return nil, api.ErrForm, line
		}
		kind, e := kindOf(text)
		if e != api.OK {
			return nil, e, line
		}
		tokens = append(tokens, api.Token{Kind: kind, Text: text, Line: line})
		at += len(text)
	}
	return tokens, api.OK, 0
}

// wantModel holds what a source is told as against the model, and the numbers
// against their texts.
func wantModel(t *testing.T, s string) bool {
	t.Helper()
	got, e, line := lex.Lex(s)
	want, f, at := model(s)
	bare := slices.Clone(got)
	for i, x := range bare {
		n := api.Num{}
		if x.Kind == api.TNum {
			n, _ = num.Parse(strings.TrimPrefix(x.Text, "#"))
		}
		if x.Num != n {
			t.Errorf("Lex(%q) has %v with the number %v", s, x, n)
		}
		bare[i].Num = api.Num{}
	}
	if !slices.Equal(bare, want) || e != f || line != at {
		t.Errorf("Lex(%q) = %v, %d, %d; want %v, %d, %d", s, got, e, line, want, f, at)
	}
	return e == api.OK
}

// All texts of some bytes, up to a length.
func TestP71ShortTexts(t *testing.T) {
	for _, x := range []struct {
		bytes string
		most  int
	}{
		{"-=.>+<#1a \n", 4}, {"-#01_a\n", 5}, {"-=.", 8}, {"aZ_0 ;", 5}, {"\\(){}%*/.\r\t-\x00\xff", 3}, {"inof \n-", 5},
	} {
		taken, last := 0, []string{""}
		for range x.most {
			var next []string
			for _, s := range last {
				for i := range len(x.bytes) {
					next = append(next, s+x.bytes[i:i+1])
				}
			}
			for _, s := range next {
				if wantModel(t, s) {
					taken++
				}
			}
			if t.Failed() {
				return
			}
			last = next
		}
		if taken < 100 {
			t.Errorf("%d texts of %q were taken: too few to tell", taken, x.bytes)
		}
	}
}

// pieces are tokens, parts of them, and what parts them.
var pieces = slices.Concat(words, backs, ops, marks, []string{
	"a", "Nil", "x_1", "Abcdefghijklmnop", "abcdefghijklmnopq", "0", "7", "12", "#5", "#-5", "0f3ff8000000000000", "#0f3ff8000000000000", "#", "_", ".", " ", "\n", "\t", "\r\n", "--", "-- x\n", "---\n", "\xe9",
})

func TestP71MixedTexts(t *testing.T) {
	seed := uint64(1)
	draw := func() string {
		seed = seed*6364136223846793005 + 1442695040888963407
		return pieces[seed>>33%uint64(len(pieces))]
	}
	taken := 0
	for n := range 20000 {
		s := ""
		for range 1 + n%12 {
			s += draw()
		}
		if wantModel(t, s) {
			taken++
		}
	}
	if taken < 2000 {
		t.Errorf("%d texts were taken: too few to tell", taken)
	}
}

// fillers part tokens, with how many lines each has.
var fillers = map[string]int{
	" ": 0, "\t": 0, "\r": 0, "\n": 1, "  \t\r": 0, "\r\n\r\n": 2, " --\n": 1, "\n-- let _ # . \xff\n": 2, " -- a\r\n\t--\n\n": 3, "\t---->\n ": 1, " --;--;\n--\n": 2, " -- " + "\x00'\n": 1,
}

// sources are such as have all kinds of tokens next to one another.
func sources() [][]string {
	all := slices.Concat(words, backs, ops, marks, []string{"a", "Nil", "x_1", "Abcdefghijklmnop", "0", "12", "#-5", "#7", "0f3ff8000000000000"})
	out := [][]string{{"f", "x", "=", "x", "+.", "#-1"}, {`\`, "x", "->", "case", "x", "of", "{", "0", "->", "-", "-", "1", ";", "y", "->", "y", "}"}}
	for _, x := range all {
		for _, y := range all {
			out = append(out, []string{x, y})
		}
	}
	return out
}

func TestP72Fillers(t *testing.T) {
	for _, texts := range sources() {
		plain, e, _ := lex.Lex(strings.Join(texts, " "))
		if e != api.OK || len(plain) != len(texts) {
			t.Fatalf("%q are told as %v, %d", texts, plain, e)
		}
		for filler, lines := range fillers {
			want := slices.Clone(plain)
			for i := range want {
				want[i].Line += (i + 1) * lines
			}
			wantTokens(t, filler+strings.Join(texts, filler)+filler, want...)
		}
	}
}

// A remark parts tokens without a blank ahead of it, but behind a minus, whose
// end would be its beginning.
func TestP72RemarkAlone(t *testing.T) {
	for _, texts := range sources() {
		plain, _, _ := lex.Lex(strings.Join(texts, " "))
		for i := range plain {
			plain[i].Line = i + 1
		}
		if slices.Contains(texts, "-") {
			continue
		}
		wantTokens(t, strings.Join(texts, "-- . _\n"), plain...)
		wantTokens(t, strings.Join(texts, "--\n")+"--", plain...)
	}
	wantTokens(t, "a---- . _\n1", tok(api.TName, "a"), on(2, numTok("1", num.Int(1))))
}

// Nothing between two tokens plays no part either, where they are none together.
func TestP72Nothing(t *testing.T) {
	for s, parted := range map[string]string{
		"f(x){y};": "f ( x ) { y } ;", `\x->y`: `\ x -> y`, "a+1": "a + 1", "a#1": "a #1", "1#-1#2": "1 #-1 #2", "a==.b": "a ==. b", "a-1": "a - 1", "case(1)of{0->1}": "case ( 1 ) of { 0 -> 1 }", "x=-1": "x = - 1", "a<-1": "a < - 1",
	} {
		got, e, line := lex.Lex(s)
		want, f, at := lex.Lex(parted)
		if !slices.Equal(got, want) || e != f || line != at {
			t.Errorf("Lex(%q) = %v, %d, %d; Lex(%q) = %v, %d, %d", s, got, e, line, parted, want, f, at)
		}
	}
	for _, x := range [][2]string{{"ab", "a b"}, {"a1", "a 1"}, {"==", "= ="}, {"->", "- >"}, {"-.", "- ."}, {"12", "1 2"}, {"letin", "let in"}, {"--", "- -"}, {"#-1", "# - 1"}} {
		got, e, _ := lex.Lex(x[0])
		other, f, _ := lex.Lex(x[1])
		if slices.Equal(got, other) && e == f {
			t.Errorf("%q and %q are told the same: %v", x[0], x[1], got)
		}
	}
}

// Each token's text, on its own, is told as the token.
func TestP72TextsAlone(t *testing.T) {
	for _, texts := range sources() {
		for _, s := range texts {
			whole, _, _ := lex.Lex(s)
			if len(whole) != 1 || whole[0].Text != s || whole[0].Line != 1 {
				t.Errorf("Lex(%q) = %v", s, whole)
			}
		}
	}
}
