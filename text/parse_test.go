package text_test

import (
	"math/big"
	"math/rand"
	"regexp"
	"slices"
	"strings"
	"testing"

	"lockstep/api"
	"lockstep/code"
	"lockstep/text"
)

// words are a text's words, with parentheses as words by themselves.
func words(s string) []string {
	apart := strings.NewReplacer("(", " ( ", ")", " ) ", "\n", " ").Replace(s)
	return slices.DeleteFunc(strings.Split(apart, " "), func(w string) bool { return w == "" })
}

// grammar is the form of a function's words, told anew by the chapter: with a
// blank ahead of each.
var grammar = func() *regexp.Regexp {
	list := `(?: \((?: N)* \))`
	phi := ` phi N N` + list + list
	op := ` (?:` + strings.Join(kinds(), "|") + `) N N N` + list + ` N`
	end := ` (?:` + strings.Join(ends(), "|") + `) N` + list
	all := `^ func` + list + ` N(?: block(?:` + phi + `)*(?:` + op + `)*` + end + `)+$`
	return regexp.MustCompile(strings.ReplaceAll(all, "N", `(?:0|[1-9][0-9]*)`))
}()

// model is whether a text is a function's, and which, by the grammar.
func model(s string) (f api.Func, ok bool) {
	ws := words(s)
	if !grammar.MatchString(" " + strings.Join(ws, " ")) {
		return api.Func{}, false
	}
	fits := true
	next := func() string {
		w := ws[0]
		ws = ws[1:]
		return w
	}
	whole := func(bits uint) uint64 {
		v, _ := new(big.Int).SetString(next(), 10)
		if v.Cmp(new(big.Int).Lsh(big.NewInt(1), bits)) >= 0 {
			fits = false
		}
		return v.Uint64()
	}
	number := func() int { return int(uint32(whole(31))) }
	row := func() []int {
		var l []int
		for next(); ws[0] != ")"; {
			l = append(l, number())
		}
		next()
		return l
	}
	next()
	f.Params, f.Ret = row(), number()
	for len(ws) > 0 {
		next()
		var k api.Block
		for ws[0] == "phi" {
			next()
			k.Phis = append(k.Phis, api.Phi{Bits: number(), Dst: number(), From: row(), Args: row()})
		}
		for slices.Contains(kinds(), ws[0]) {
			k.Ops = append(k.Ops, api.Op{Kind: slices.Index(kinds(), next()), Bits: number(), Lanes: number(), Dst: number(), Args: row(), Imm: whole(64)})
		}
		k.End = api.End{Kind: slices.Index(ends(), next()), Arg: number(), To: row()}
		f.Blocks = append(f.Blocks, k)
	}
	if !fits || !code.May(f) {
		return api.Func{}, false
	}
	return f, true
}

func short(s string) string {
	if len(s) > 300 {
		return s[:150] + " .. " + s[len(s)-150:]
	}
	return s
}

func checkParse(t *testing.T, s string, want api.Func, e api.Code) {
	t.Helper()
	f, c := text.Parse(s)
	if c != e || !code.Same(f, want) {
		t.Errorf("P5.2: Parse(%q) is %v, %d, not %v, %d", short(s), f, c, want, e)
	}
}

func checkWrong(t *testing.T, s string) {
	t.Helper()
	checkParse(t, s, api.Func{}, api.Malformed)
}

// checkModel checks it against the model, and tells whether it is a function's.
func checkModel(t *testing.T, s string) bool {
	t.Helper()
	f, ok := model(s)
	if !ok {
		checkWrong(t, s)
		return false
	}
	checkParse(t, s, f, api.OK)
	if p, _ := text.Print(f); !slices.Equal(words(p), words(s)) {
		t.Errorf("P5.3: %q is printed as %q", short(s), short(p))
	}
	return true
}

// P5.2

func TestParseByHand(t *testing.T) {
	checkParse(t, fiveText, five(), api.OK)
	checkParse(t, sampleText, sample(), api.OK)
	checkParse(t, "func () 0\nblock\nret 0 ()\n", api.Func{Blocks: make([]api.Block, 1)}, api.OK)
	checkParse(t, "func () 0 block ret 0 () block jump 0 ()", api.Func{Blocks: []api.Block{{}, {End: api.End{Kind: api.Jump}}}}, api.OK)
}

func TestParseOfAll(t *testing.T) {
	for _, f := range functions() {
		checkParse(t, spell(f), f, api.OK)
	}
}

func TestParseOfKindsAndEnds(t *testing.T) {
	for k, name := range kinds() {
		f := five()
		f.Blocks[0].Ops[0].Kind = k
		checkParse(t, strings.Replace(fiveText, "const", name, 1), f, api.OK)
		checkWrong(t, strings.Replace(fiveText, "ret", name, 1))
	}
	for k, name := range ends() {
		f := five()
		f.Blocks[0].End.Kind = k
		checkParse(t, strings.Replace(fiveText, "ret", name, 1), f, api.OK)
		checkWrong(t, strings.Replace(fiveText, "const", name, 1))
	}
	for _, name := range []string{"", "foo", "Const", "RET", "ad", "adds", "0", "23", "phi", "func", "block", "(", ")", "ret\x00"} {
		checkWrong(t, strings.Replace(fiveText, "ret", name, 1))
		checkWrong(t, strings.Replace(fiveText, "const", name, 1))
	}
}

func gaps() []string {
	return []string{" ", "\n", "  ", "\n\n", " \n ", "\n \n", strings.Repeat(" ", 500)}
}

func TestParseWithOtherGaps(t *testing.T) {
	for _, gap := range gaps() {
		checkParse(t, strings.ReplaceAll(strings.ReplaceAll(sampleText, "\n", " "), " ", gap), sample(), api.OK)
		checkParse(t, strings.Join(words(sampleText), gap), sample(), api.OK)
		checkParse(t, gap+sampleText, sample(), api.OK)
		checkParse(t, sampleText+gap, sample(), api.OK)
		checkParse(t, strings.ReplaceAll(sampleText, "(", "("+gap), sample(), api.OK)
		checkParse(t, strings.ReplaceAll(sampleText, ")", gap+")"), sample(), api.OK)
		checkWrong(t, gap)
	}
	tight := sampleText
	for _, c := range []string{" (", "\n(", ") ", ")\n", "( ", " )"} {
		tight = strings.ReplaceAll(tight, c, strings.Trim(c, " \n"))
	}
	checkParse(t, tight, sample(), api.OK)
	checkParse(t, strings.TrimSpace(sampleText), sample(), api.OK)
	checkParse(t, "func()8 block const 8 1 1()5 ret 1()", five(), api.OK)
}

func TestParseWithoutGapsThatMustStand(t *testing.T) {
	for _, s := range []string{
		"func()8block ret 1()", "func()8 block ret 1()x", "func()8 block const 8 1 1()5ret 1()", "func()8 blockret 1()", "func()8 block ret1()", "func()8 block ret 1()block",
		"func()8 blockconst 8 1 1()5 ret 1()", "func()8 block const8 1 1()5 ret 1()", "func()8 block const 81 1()5 ret 1()", "func(64 8)8 block ret 1()8",
	} {
		checkWrong(t, s)
	}
	checkParse(t, "func(648)8 block ret 1()", api.Func{Params: []int{648}, Ret: 8, Blocks: []api.Block{{End: api.End{Arg: 1}}}}, api.OK)
}

// TestParseOfWhatIsNoGap: nothing but blanks and line ends stands between words.
func TestParseOfWhatIsNoGap(t *testing.T) {
	checkParse(t, " \n "+strings.ReplaceAll(fiveText, " ", "\n")+" \n ", five(), api.OK)
	for _, c := range []string{"\t", "\r", "\v", "\f", "\x00", "\b", "\x7f", "\u0085", "\u00a0", "\u2003", "\u2028", "\u3000", "\ufeff", "\xff", "\xa0", "\xc0\xa0", "\xc0\x8a", ",", ";", "#", "//", "_", "[", "]", "（", "）"} {
		for i := range len(fiveText) + 1 {
			checkWrong(t, fiveText[:i]+c+fiveText[i:])
			checkWrong(t, fiveText[:i]+" "+c+" "+fiveText[i:])
			if i < len(fiveText)-1 {
				checkWrong(t, fiveText[:i]+c+fiveText[i+1:])
			}
		}
	}
}

func TestParseOfTextsThatEndTooSoon(t *testing.T) {
	for _, s := range []string{fiveText, sampleText} {
		for i := range len(s) - 1 {
			// What ends behind a block's end may be a whole function.
			checkModel(t, s[:i])
		}
	}
	for i := range len(fiveText) - 1 {
		checkWrong(t, fiveText[:i])
	}
	checkWrong(t, "")
	checkWrong(t, "func")
	checkWrong(t, "func ()")
	checkWrong(t, "func () 8")
	checkWrong(t, "func () 8\nblock\n")
}

func TestParseOfWordsThatAreGoneOrTwice(t *testing.T) {
	for _, s := range []string{fiveText, sampleText} {
		ws := words(s)
		seen := 0
		for i := range ws {
			checkModel(t, strings.Join(slices.Concat(ws[:i], ws[i+1:]), " "))
			checkModel(t, strings.Join(slices.Concat(ws[:i+1], ws[i:]), " "))
			for _, w := range append(append(kinds(), ends()...), "func", "block", "phi", "(", ")", "0", "7", "00", "x") {
				if checkModel(t, strings.Join(slices.Concat(ws[:i], []string{w}, ws[i:]), " ")) {
					seen++
				}
				checkModel(t, strings.Join(slices.Concat(ws[:i], []string{w}, ws[i+1:]), " "))
			}
		}
		if seen == 0 {
			t.Error("P5.2: no word could be put in")
		}
	}
}

func TestParseOfLinesOutOfOrder(t *testing.T) {
	const (
		head  = "func () 8\n"
		block = "block\n"
		phi   = "phi 8 4 (0) (3)\n"
		op    = "const 8 1 1 () 5\n"
		end   = "ret 1 ()\n"
	)
	checkModel(t, head+block+phi+phi+op+op+end+block+end)
	for _, s := range []string{
		head + block + op + phi + end, head + block + phi + op + phi + end, head + block + end + op, head + block + end + phi, head + block + end + end,
		head + block + block + end, head + block + op + block + end, head + block + phi + op, head + block + end + block, head + block + end + head, head + head + block + end,
		head + end, head + op + end, head + phi + end, block + end, end, block + head + end, head, head + block, head + block + end + "x", "x " + head + block + end,
	} {
		checkWrong(t, s)
	}
}

// TestParseOfNumbers puts others for each number of a text.
func TestParseOfNumbers(t *testing.T) {
	ws := words(sampleText)
	for i, w := range ws {
		if w[0] < '0' || w[0] > '9' {
			continue
		}
		with := func(n string) string { return strings.Join(slices.Concat(ws[:i], []string{n}, ws[i+1:]), " ") }
		for _, n := range []string{"0", "1", "9", "10", "1000000000", "2147483646", "2147483647"} {
			if !checkModel(t, with(n)) {
				t.Errorf("P5.2: %s isn't taken as word %d", n, i)
			}
		}
		for _, n := range []string{"2147483648", "4294967295", "4294967296", "4294967304", "9223372036854775808", "18446744073709551615"} {
			// Behind a list stands but an Imm, and Ret, which is word 6.
			imm := ws[i-1] == ")" && i > 6
			if checkModel(t, with(n)) != imm {
				t.Errorf("P5.2: whether %s is taken as word %d isn't %v", n, i, imm)
			}
		}
		for _, n := range []string{
			"18446744073709551616", "18446744073709551624", "99999999999999999999", "184467440737095516150", "340282366920938463463374607431768211456", strings.Repeat("9", 1000),
			"00", "01", "05", "007", "00000000000000000000000000000005", "-0", "-1", "+1", "+0", "1.0", "1e1", "0x1", "0b1", "0o1", "1_0", "1,0", "x", "1x", "x1", "٣", "１", "1\xff", "\xff1", "1\x00", "²", "--1", "'1'", "NaN",
		} {
			checkWrong(t, with(n))
		}
	}
}

func TestParseOfLists(t *testing.T) {
	const s = "func P 8 block phi 8 4 L L const 8 1 1 L 5 ret 1 L"
	with := func(params, list string, n int) string {
		s := strings.Replace(s, "P", params, 1)
		for range n {
			s = strings.Replace(s, "L", "()", 1)
		}
		return strings.ReplaceAll(strings.Replace(s, "L", list, 1), "L", "()")
	}
	for n := range 4 {
		for _, many := range []int{0, 1, 2, 15, 16, 17, 63, 64, 65, 66, 128, 1000} {
			if checkModel(t, with("()", spellList(repeat(many, 5)), n)) != (many <= 64) {
				t.Errorf("P5.2: list %d of %d is wrong", n, many)
			}
		}
		for _, l := range []string{"", "(", ")", "(1", "1)", "1", ")(", "(()", "())", "(())", "((1))", "(1))", "((1)", "()()", "(1)(2)", "(x)", "(1 x)", "(01)", "(-1)", "(1,2)", "[1]", "( 1 2", "(1 (2) 3)"} {
			checkWrong(t, with("()", l, n))
			checkWrong(t, with(l, "()", n))
		}
	}
	for many := range 70 {
		if checkModel(t, with(spellList(repeat(many, 8)), "()", 0)) != (many <= 16) {
			t.Errorf("P5.2: %d parameters are wrong", many)
		}
	}
}

func TestParseOfManyBlocksAndLines(t *testing.T) {
	const (
		head = "func () 8\n"
		phi  = "phi 8 4 () ()\n"
		op   = "add 8 1 3 (1 2) 0\n"
		end  = "ret 1 ()\n"
	)
	for _, n := range []int{1, 2, 63, 64, 65, 66, 512, 600} {
		s := head + strings.Repeat("block\n"+end, n)
		if checkModel(t, s) != (n <= 64) {
			t.Errorf("P5.2: %d blocks are wrong", n)
		}
	}
	for _, n := range []int{1, 2, 255, 256, 509, 510, 511, 512, 513, 514, 1000, 5000} {
		for _, s := range []string{
			head + "block\n" + strings.Repeat(phi, n) + end,
			head + "block\n" + strings.Repeat(op, n) + end,
			head + "block\n" + strings.Repeat(phi, n/2) + strings.Repeat(op, n-n/2) + end,
		} {
			if checkModel(t, s) != (n < 512) {
				t.Errorf("P5.2: %d lines are wrong", n)
			}
		}
		two := head + "block\n" + strings.Repeat(op, n/2) + end + "block\n" + strings.Repeat(phi, n-n/2) + end
		if checkModel(t, two) != (n < 511) {
			t.Errorf("P5.2: %d lines of two blocks are wrong", n)
		}
	}
}

func TestParseOfLongTexts(t *testing.T) {
	const most = 1 << 22
	for _, c := range []string{"1", "1 ", "(", ")", "x", "x ", "( ", "() ", "\xff", "add ", "0"} {
		long := strings.Repeat(c, most)
		checkWrong(t, long)
		checkWrong(t, "func ("+long)
		checkWrong(t, "func () 8 block "+long)
		checkWrong(t, fiveText+long)
	}
	long := strings.Repeat(" \n", most)
	checkParse(t, long+strings.ReplaceAll(fiveText, "8 ", "8"+long)+long, five(), api.OK)
	checkWrong(t, long)
}

// TestParseOfOneByteElse changes a text at each place.
func TestParseOfOneByteElse(t *testing.T) {
	for _, s := range []string{fiveText, "func(64 8)8 block phi 8 3(0)(1)add 8 1 4(3 2)0 if 4(0 1)block trap 0()"} {
		for i := range len(s) {
			checkModel(t, s[:i]+s[i+1:])
			for c := range 256 {
				checkModel(t, s[:i]+string([]byte{byte(c)})+s[i:])
				checkModel(t, s[:i]+string([]byte{byte(c)})+s[i+1:])
			}
		}
	}
}

// TestParseOfFewWords goes through all rows of up to 6 of these words, behind
// the beginnings of functions.
func TestParseOfFewWords(t *testing.T) {
	few := []string{"(", ")", "1", "block", "phi", "add", "ret"}
	for _, head := range []string{"", "func ", "func () 8 ", "func () 8 block ", "func () 8 block phi 1 1 () ", "func () 8 block add 1 1 1 ", "func () 8 block ret 1 "} {
		total := 1
		for n := range 6 {
			for v := range total {
				s := head
				for range n {
					s += few[v%len(few)] + " "
					v /= len(few)
				}
				checkModel(t, s)
			}
			total *= len(few)
		}
	}
}

// TestParseOfChangedTexts changes texts of functions here and there.
func TestParseOfChangedTexts(t *testing.T) {
	r := rand.New(rand.NewSource(5))
	seen := map[bool]int{}
	bits := []string{" ", "\n", "(", ")", "0", "1", "64", "2147483648", " phi ", "block ", " add", "ret", "\t", "\xff", "é"}
	for _, whole := range []string{sampleText, fiveText, short(spell(odd()))} {
		for range 8000 {
			s := whole
			for range 1 + r.Intn(3) {
				at := r.Intn(len(s))
				switch r.Intn(3) {
				case 0:
					s = s[:at] + s[min(len(s), at+1+r.Intn(2)):]
				case 1:
					s = s[:at] + bits[r.Intn(len(bits))] + s[at:]
				default:
					s = s[:at] + bits[r.Intn(len(bits))] + s[at+1:]
				}
			}
			seen[checkModel(t, s)]++
		}
	}
	if seen[true] < 1000 || seen[false] < 1000 {
		t.Errorf("P5.2: seen were %v", seen)
	}
}

// P5.3

func TestWhatIsPrintedIsParsedToItself(t *testing.T) {
	r := rand.New(rand.NewSource(6))
	fs := functions()
	for range 2000 {
		fs = append(fs, byChance(r))
	}
	for _, f := range fs {
		s, e := text.Print(f)
		if s != spell(f) || e != api.OK {
			t.Fatalf("P5.1: %v is printed as %q, %d", f, s, e)
		}
		g, e := text.Parse(s)
		if e != api.OK || !code.Same(f, g) {
			t.Fatalf("P5.3: %v is parsed to %v, %d", f, g, e)
		}
		loose := strings.Join(words(s), gaps()[r.Intn(4)])
		if g, e := text.Parse(loose); e != api.OK || !code.Same(f, g) {
			t.Fatalf("P5.3: %q is parsed to %v, %d", loose, g, e)
		}
		// P4 of the whole: the same by its bytes and by its text.
		h, _ := code.Decode(code.Encode(f))
		if p, _ := text.Print(h); p != s {
			t.Fatalf("P5.3: by its bytes it is printed as %q, not %q", p, s)
		}
	}
}

// byChance is a function that has a text, and else is as it comes.
func byChance(r *rand.Rand) api.Func {
	number := func() int { return int(r.Uint64() >> (33 + r.Intn(31))) }
	row := func(most int) []int {
		l := make([]int, r.Intn(1+r.Intn(most+1)))
		for i := range l {
			l[i] = number()
		}
		return l
	}
	f := api.Func{Params: row(16), Ret: number(), Blocks: make([]api.Block, 1+r.Intn(1+r.Intn(20)))}
	for i := range f.Blocks {
		k := &f.Blocks[i]
		for range r.Intn(4) {
			k.Phis = append(k.Phis, api.Phi{Bits: number(), Dst: number(), From: row(64), Args: row(64)})
		}
		for range r.Intn(4) {
			k.Ops = append(k.Ops, api.Op{Kind: r.Intn(23), Bits: number(), Lanes: number(), Dst: number(), Args: row(64), Imm: r.Uint64() >> r.Intn(64)})
		}
		k.End = api.End{Kind: r.Intn(4), Arg: number(), To: row(64)}
	}
	return f
}

func TestExampleOfTheChapter(t *testing.T) {
	f, e := code.Decode([]byte{0, 8, 1, 0, 1, 0, 8, 1, 1, 0, 5, 0, 1, 0})
	if s, c := text.Print(f); e != api.OK || c != api.OK || s != fiveText {
		t.Errorf("P5.1: it is printed as %q, %d", s, c)
	}
}
