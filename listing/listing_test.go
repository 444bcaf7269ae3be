package listing

import (
	"encoding/hex"
	"fmt"
	"math"
	"math/big"
	"regexp"
	"slices"
	"strings"
	"testing"

	"backreach/api"
	"backreach/code"
	"backreach/image"
)

// head is lines behind which an instruction may stand: three of them.
const head = "rb64 8 1 1\nfun\nhalt\n"

// example is the chapter's.
const example = "rb64 2 1 1\ndata 07\nfun\nload r1 r0 1 0\nhalt\n"

// shapes is what the words behind each first word are to be: a register, a small number, a number, hex; as chapters 2 and 4 tell it.
var shapes = makeShapes()

func makeShapes() map[string]string {
	m := map[string]string{
		"rb64": "sss", "data": "h", "fun": "",
		"halt": "", "back": "", "fail": "", "set": "rn", "copy": "rr", "load": "rrsn", "save": "rrsn",
		"input": "rrn", "length": "r", "jump": "n", "call": "n", "branch": "rn",
	}
	for _, name := range strings.Fields("add sub mul div rem and or xor shl shr sar same less below") {
		m[name] = "rrr"
	}
	return m
}

// order is the letters of listings whose lines stand right: rb64, data, fun, instructions.
var order = regexp.MustCompile(`^s(d?(fi*)*)$`)

func letter(first string) string {
	switch first {
	case "rb64":
		return "s"
	case "data":
		return "d"
	case "fun":
		return "f"
	}
	return "i"
}

var wordForms = map[rune]*regexp.Regexp{
	'r': regexp.MustCompile(`\Ar[0-7]\z`),
	's': regexp.MustCompile(`\A(0|[1-9][0-9]*)\z`),
	'n': regexp.MustCompile(`\A(0|[1-9][0-9]*)\z`),
	'h': regexp.MustCompile(`\A([0-9a-f][0-9a-f])+\z`),
}

// wordError is what is wrong of a word that is to be of a kind.
func wordError(kind rune, w string) api.Errno {
	e := api.ErrWord
	if kind == 's' || kind == 'n' {
		e = api.ErrNumber
	}
	if !wordForms[kind].MatchString(w) {
		return e
	}
	if kind == 's' && (len(w) > 3 || len(w) == 3 && w > "255") {
		return e
	}
	if n, told := new(big.Int).SetString(w, 10); kind == 'n' && told && n.BitLen() > 64 {
		return e
	}
	return api.OK
}

// lineError is what is wrong of a line, behind lines of these letters.
func lineError(before string, line string) api.Errno {
	words := strings.Split(line, " ")
	shape, known := shapes[words[0]]
	if !known {
		return api.ErrWord
	}
	if !order.MatchString(before + letter(words[0])) {
		return api.ErrForm
	}
	for n, kind := range shape {
		if n+1 >= len(words) {
			return api.ErrWord
		}
		if e := wordError(kind, words[n+1]); e != api.OK {
			return e
		}
	}
	if len(words) > len(shape)+1 {
		return api.ErrWord
	}
	return api.OK
}

// told is the image of lines that are right, with nothing asked of it.
func told(lines []string) api.Image {
	var p api.Image
	for _, line := range lines {
		var i api.Ins
		first, rest, _ := strings.Cut(line, " ")
		switch first {
		case "rb64":
			fmt.Sscan(rest, &p.Mem, &p.Stack, &p.Input)
			continue
		case "data":
			p.Data, _ = hex.DecodeString(rest)
			continue
		case "fun":
			p.Funs = append(p.Funs, len(p.Code))
			continue
		}
		i.Op, _ = code.Op(first)
		registers := []*int{&i.A, &i.B, &i.C}
		for _, w := range strings.Fields(rest) {
			switch {
			case w[0] == 'r':
				fmt.Sscanf(w, "r%d", registers[0])
				registers = registers[1:]
			case len(registers) == 1 && (i.Op == api.Load || i.Op == api.Save):
				fmt.Sscan(w, registers[0])
				registers = nil
			default:
				fmt.Sscan(w, &i.Imm)
			}
		}
		p.Code = append(p.Code, i)
	}
	return p
}

// expected is what the chapter says of a text, written a second time.
func expected(s string) (api.Image, api.Errno, int) {
	var right []string
	letters := ""
	for n, line := range strings.Split(s, "\n") {
		if line == "" || strings.HasPrefix(line, "#") {
			continue
		}
		if e := lineError(letters, line); e != api.OK {
			return api.Image{}, e, n + 1
		}
		first, _, _ := strings.Cut(line, " ")
		letters += letter(first)
		right = append(right, line)
	}
	if len(right) == 0 {
		return api.Image{}, api.ErrForm, 0
	}
	p := told(right)
	if _, e := image.Encode(p); e != api.OK {
		return api.Image{}, e, 0
	}
	return p, api.OK, 0
}

// look holds what Parse tells of a text against the chapter, and tells the error.
func look(t *testing.T, s string) api.Errno {
	t.Helper()
	p, e, line := Parse(s)
	q, f, at := expected(s)
	if e != f || line != at || !image.Same(p, q) {
		t.Fatalf("Parse(%q): %v %v %v, not %v %v %v", s, p, e, line, q, f, at)
	}
	return e
}

// wanted holds what Parse tells of a text against an error and a line, which are written out by hand.
func wanted(t *testing.T, s string, e api.Errno, line int) {
	t.Helper()
	if p, f, at := Parse(s); f != e || at != line || e != api.OK && !image.Same(p, api.Image{}) {
		t.Errorf("Parse(%q): %v %v %v, not %v %v", s, p, f, at, e, line)
	}
	look(t, s)
}

func printed(t *testing.T, p api.Image) string {
	t.Helper()
	s, e := Print(p)
	if e != api.OK {
		t.Fatalf("Print(%v): %v", p, e)
	}
	return s
}

// every has each operation once at least, r0 and r7, each width, and the least and the greatest numbers.
func every() api.Image {
	p := api.Image{Mem: 64, Stack: 16, Input: 16, Data: []byte{0, 255, 16, 171}, Funs: []int{0, 31, 32}, Code: []api.Ins{
		{Op: api.Set, A: 0, Imm: 0}, {Op: api.Set, A: 7, Imm: math.MaxUint64}, {Op: api.Copy, A: 7, B: 0},
	}}
	for op := api.Add; op <= api.Below; op++ {
		p.Code = append(p.Code, api.Ins{Op: op, A: op % 8, B: 7 - op%8, C: op / 2 % 8})
	}
	for _, width := range []int{1, 2, 4, 8} {
		p.Code = append(p.Code, api.Ins{Op: api.Load, A: 7, B: 6, C: width, Imm: 255}, api.Ins{Op: api.Save, A: 0, B: 1, C: width, Imm: 256})
	}
	p.Code = append(p.Code, []api.Ins{
		{Op: api.Input, A: 2, B: 3, Imm: 10}, {Op: api.Length, A: 4}, {Op: api.Branch, A: 5, Imm: 30},
		{Op: api.Call, Imm: 2}, {Op: api.Jump, Imm: 0}, {Op: api.Fail},
		{Op: api.Halt},
		{Op: api.Back},
	}...)
	return p
}

const everyText = `rb64 64 16 16
data 00ff10ab
fun
set r0 0
set r7 18446744073709551615
copy r7 r0
add r3 r4 r1
sub r4 r3 r2
mul r5 r2 r2
div r6 r1 r3
rem r7 r0 r3
and r0 r7 r4
or r1 r6 r4
xor r2 r5 r5
shl r3 r4 r5
shr r4 r3 r6
sar r5 r2 r6
same r6 r1 r7
less r7 r0 r7
below r0 r7 r0
load r7 r6 1 255
save r0 r1 1 256
load r7 r6 2 255
save r0 r1 2 256
load r7 r6 4 255
save r0 r1 4 256
load r7 r6 8 255
save r0 r1 8 256
input r2 r3 10
length r4
branch r5 30
call 2
jump 0
fail
fun
halt
fun
back
`

// full has as much of everything as there may be.
func full() api.Image {
	p := api.Image{Mem: 64, Stack: 16, Input: 16, Data: make([]byte, 64), Code: slices.Repeat([]api.Ins{{Op: api.Halt}}, 256)}
	for n := range p.Data {
		p.Data[n] = byte(255 - n*4)
	}
	for n := range 16 {
		p.Funs = append(p.Funs, n*17)
	}
	return p
}

func samples() []api.Image {
	return []api.Image{
		every(), full(),
		{Funs: []int{0}, Code: []api.Ins{{Op: api.Halt}}},
		{Mem: 1, Data: []byte{7}, Funs: []int{0}, Code: []api.Ins{{Op: api.Back}}},
		{Mem: 2, Stack: 1, Input: 1, Data: []byte{7}, Funs: []int{0}, Code: []api.Ins{{Op: api.Load, A: 1, C: 1}, {Op: api.Halt}}},
		{Mem: 64, Funs: []int{0, 1}, Code: []api.Ins{{Op: api.Jump}, {Op: api.Call, Imm: 1}, {Op: api.Fail}}},
	}
}

// P4.1, P4.2: the chapter's example.
func TestExample(t *testing.T) {
	p := api.Image{Mem: 2, Stack: 1, Input: 1, Data: []byte{7}, Funs: []int{0}, Code: []api.Ins{{Op: api.Load, A: 1, C: 1}, {Op: api.Halt}}}
	if s := printed(t, p); s != example {
		t.Errorf("%q", s)
	}
	if q, e, line := Parse(example); !image.Same(p, q) || e != api.OK || line != 0 {
		t.Error(q, e, line)
	}
}

// P4.1: every operation, three functions and data, written out by hand; and what there is where there is least.
func TestPrint(t *testing.T) {
	if s := printed(t, every()); s != everyText {
		t.Errorf("%s", s)
	}
	least := api.Image{Data: []byte{}, Funs: []int{0}, Code: []api.Ins{{Op: api.Halt}}}
	if s := printed(t, least); s != "rb64 0 0 0\nfun\nhalt\n" {
		t.Errorf("%q", s)
	}
	lines := strings.Split(printed(t, full()), "\n")
	if len(lines) != 1+1+16+256+1 || lines[0] != "rb64 64 16 16" || lines[1] != "data "+hex.EncodeToString(full().Data) || lines[274] != "" {
		t.Error(lines)
	}
	for n := range 16 {
		if lines[2+n*18] != "fun" {
			t.Error(n, lines[2+n*18])
		}
	}
}

// P4.1: each byte of data as two digits.
func TestPrintData(t *testing.T) {
	for n := range 256 {
		p := api.Image{Mem: 1, Data: []byte{byte(n)}, Funs: []int{0}, Code: []api.Ins{{Op: api.Halt}}}
		if s, want := printed(t, p), fmt.Sprintf("rb64 1 0 0\ndata %02x\nfun\nhalt\n", n); s != want {
			t.Errorf("%q", s)
		}
	}
}

// P4.1: what isn't right has layer 3's error, and no listing.
func TestPrintWrong(t *testing.T) {
	for n, x := range []struct {
		turn func(p *api.Image)
		e    api.Errno
	}{
		{func(p *api.Image) { p.Mem = 65 }, api.ErrRange},
		{func(p *api.Image) { p.Mem = 3 }, api.ErrRange},
		{func(p *api.Image) { p.Stack = -1 }, api.ErrRange},
		{func(p *api.Image) { p.Input = 17 }, api.ErrRange},
		{func(p *api.Image) { p.Data = make([]byte, 65) }, api.ErrRange},
		{func(p *api.Image) { p.Funs = nil }, api.ErrRange},
		{func(p *api.Image) { p.Funs = []int{1} }, api.ErrRange},
		{func(p *api.Image) { p.Funs = []int{0, 31, 31} }, api.ErrRange},
		{func(p *api.Image) { p.Funs = []int{0, 33} }, api.ErrRange},
		{func(p *api.Image) { p.Code = nil }, api.ErrRange},
		{func(p *api.Image) { *p = api.Image{} }, api.ErrRange},
		{func(p *api.Image) { p.Code[4].Op = 26 }, api.ErrOp},
		{func(p *api.Image) { p.Code[4].Op = -1 }, api.ErrOp},
		{func(p *api.Image) { p.Code[4].A = 8 }, api.ErrField},
		{func(p *api.Image) { p.Code[17].C = 3 }, api.ErrField},
		{func(p *api.Image) { p.Code[32].Imm = 1 }, api.ErrField},
		{func(p *api.Image) { p.Code[29].Imm = 31 }, api.ErrFlow},
		{func(p *api.Image) { p.Code[28].Imm = 3 }, api.ErrFlow},
		{func(p *api.Image) { p.Code[31] = api.Ins{Op: api.Length} }, api.ErrFlow},
		{func(p *api.Image) { p.Code[31] = api.Ins{Op: api.Length, A: 9}; p.Code[3].Op = 99 }, api.ErrOp},
		{func(p *api.Image) { p.Code[3].Op = 99; p.Input = 99 }, api.ErrRange},
	} {
		p := every()
		x.turn(&p)
		_, layer3 := image.Encode(p)
		if s, e := Print(p); s != "" || e != x.e || e != layer3 {
			t.Errorf("%d: %q %v, not %v", n, s, e, x.e)
		}
	}
}

// P4.1: the line of each operation, written out by hand.
func TestLine(t *testing.T) {
	lines, at := strings.Split(everyText, "\n"), 2
	for place, i := range every().Code {
		if slices.Contains(every().Funs, place) {
			at++
		}
		if s := Line(i); s != lines[at] {
			t.Errorf("%v: %q, not %q", i, s, lines[at])
		}
		at++
	}
}

// someIns is an instruction whose parts often aren't right.
func someIns(d *draw) api.Ins {
	i := api.Ins{Op: d.below(28) - 1}
	for _, x := range []*int{&i.A, &i.B, &i.C} {
		if d.below(2) == 0 {
			*x = d.below(12) - 2
		}
	}
	if d.below(2) == 0 {
		i.Imm = uint64(d.below(300)) << d.below(64)
	}
	return i
}

// lineOf is Line, by the shapes of the chapters.
func lineOf(i api.Ins) string {
	if _, e := code.Put(i); e != api.OK {
		return ""
	}
	s, parts := code.Name(i.Op), []int{i.A, i.B, i.C}
	for _, kind := range shapes[s] {
		switch kind {
		case 'r':
			s += fmt.Sprintf(" r%d", parts[0])
			parts = parts[1:]
		case 's':
			s += fmt.Sprintf(" %d", i.C)
		case 'n':
			s += fmt.Sprintf(" %d", i.Imm)
		}
	}
	return s
}

// P4.1: the line of an instruction that isn't right is empty, whichever part is wrong; that of others is as the chapter tells it.
func TestLineOfAll(t *testing.T) {
	for _, i := range []api.Ins{
		{Op: -1}, {Op: 26}, {Op: math.MaxInt}, {Op: math.MinInt}, {Op: api.Halt, A: 1}, {Op: api.Halt, Imm: 1}, {Op: api.Set, A: 8}, {Op: api.Set, A: -1},
		{Op: api.Set, B: 1}, {Op: api.Copy, C: 1}, {Op: api.Add, C: 8}, {Op: api.Add, Imm: 1}, {Op: api.Load}, {Op: api.Load, C: 3}, {Op: api.Save, C: 16},
		{Op: api.Save, C: 257}, {Op: api.Length, B: 1}, {Op: api.Jump, A: 1}, {Op: api.Branch, B: 1}, {Op: api.Back, Imm: 1}, {Op: api.Copy, B: math.MaxInt},
	} {
		if s := Line(i); s != "" {
			t.Errorf("%v: %q", i, s)
		}
	}
	d := draw(3)
	counts := map[bool]int{}
	for range 100000 {
		i := someIns(&d)
		s := Line(i)
		if s != lineOf(i) {
			t.Fatalf("%v: %q, not %q", i, s, lineOf(i))
		}
		counts[s == ""]++
	}
	if counts[false] < 5000 || counts[true] < 5000 {
		t.Error(counts)
	}
}

// P4.2: texts that say nothing.
func TestParseNothing(t *testing.T) {
	for _, s := range []string{"", "\n", "\n\n\n", "#", "# rb64 1 1 1", "#\n#halt\n\n", "\n#"} {
		wanted(t, s, api.ErrForm, 0)
	}
}

// P4.2: what isn't a first word; a line that begins with anything else than # says something.
func TestParseFirstWord(t *testing.T) {
	for _, s := range []string{
		" ", "  ", " #", " halt", "Halt", "HALT", "halts", "hal", "rb32 1 1 1", "rb64\t1 1 1", "rb64\r", "RB64 1 1 1", "Data 00", "func", "fun\r",
		"\t", "\x00", "\xff\xfe", "é", "r0", "0", "nop r1", "\u00a0halt", ";", "//",
	} {
		for _, before := range []string{"", "#\n\n", "rb64 8 1 1\n", "rb64 8 1 1\ndata 00\n", head} {
			wanted(t, before+s, api.ErrWord, strings.Count(before, "\n")+1)
		}
	}
	for c := range 256 {
		look(t, string([]byte{byte(c)}))
		look(t, head+string([]byte{byte(c)})+"\n")
		look(t, head+"halt"+string([]byte{byte(c)}))
		look(t, head+string([]byte{byte(c)})+"halt")
	}
}

// P4.2: lines that may not stand where they stand, told ahead of what is wrong in their other words.
func TestParseOrder(t *testing.T) {
	for _, x := range []struct {
		s    string
		line int
	}{
		{"fun", 1}, {"data 00", 1}, {"halt", 1}, {"fun 1", 1}, {"data", 1}, {"data xx yy", 1}, {"set", 1}, {"set 1 x", 1}, {"halt more", 1},
		{"\n#a\nhalt", 3},
		{"fun\nrb64 1 1 1\nhalt", 1}, {"data 00\nrb64 1 1 1\nfun\nhalt", 1},
		{"rb64 1 1 1\nrb64 1 1 1\nfun\nhalt", 2}, {"rb64 1 1 1\nrb64 x", 2}, {"rb64 1 1 1\nrb64", 2},
		{"rb64 1 1 1\ndata 00\ndata 00\nfun\nhalt", 3}, {"rb64 1 1 1\ndata 00\ndata", 3}, {"rb64 1 1 1\ndata 00\nrb64 1 1 1", 3},
		{"rb64 1 1 1\nhalt", 2}, {"rb64 1 1 1\ndata 00\nhalt\nfun", 3}, {"rb64 1 1 1\nset 8", 2},
		{"rb64 1 1 1\nfun\ndata 00\nhalt", 3}, {"rb64 1 1 1\nfun\nhalt\ndata 0", 4}, {"rb64 1 1 1\nfun\nhalt\nfun\nrb64 1 1 1\nhalt", 5}, {"rb64 1 1 1\nfun\nrb64", 3},
	} {
		wanted(t, x.s, api.ErrForm, x.line)
	}
	for name := range shapes {
		for _, before := range []string{"", "rb64 8 1 1\n", "rb64 8 1 1\ndata 00\n", head} {
			look(t, before+name)
			look(t, before+name+" x")
			look(t, before+name+" ")
		}
	}
}

// P4.2: words of a line that are wanting, that aren't what they are to be, or that are more, from the left; the errors are written out by hand.
func TestParseWords(t *testing.T) {
	for _, x := range []struct {
		s string
		e api.Errno
	}{
		{"rb64", api.ErrWord}, {"rb64 1", api.ErrWord}, {"rb64 1 1", api.ErrWord}, {"rb64 1 1 1 1", api.ErrWord}, {"rb64 1 1 1 ", api.ErrWord}, {"rb64 1 1 1  ", api.ErrWord},
		{"rb64 ", api.ErrNumber}, {"rb64  1 1 1", api.ErrNumber}, {"rb64 1  1 1", api.ErrNumber}, {"rb64 1 1  1", api.ErrNumber}, {"rb64 1 1 ", api.ErrNumber},
		{"rb64 x", api.ErrNumber}, {"rb64 1 x", api.ErrNumber}, {"rb64 1 1 x x", api.ErrNumber}, {"rb64 256", api.ErrNumber}, {"rb64 1 256 x", api.ErrNumber},
		{"rb64 r1 1 1", api.ErrNumber}, {"rb64 1 1 1\r", api.ErrNumber}, {"rb64 1\t1 1 1", api.ErrNumber}, {"rb64 1 1 256", api.ErrNumber}, {"rb64 1 1 00", api.ErrNumber},
	} {
		wanted(t, x.s, x.e, 1)
		wanted(t, x.s+"\nrb32", x.e, 1)
		wanted(t, "#\n"+x.s+"\nfun\nhalt\n", x.e, 2)
	}
	for _, x := range []struct {
		s string
		e api.Errno
	}{
		{"fun ", api.ErrWord}, {"fun 1", api.ErrWord}, {"fun  ", api.ErrWord}, {"halt ", api.ErrWord}, {"halt r1", api.ErrWord}, {"halt  ", api.ErrWord}, {"back 0", api.ErrWord}, {"fail #", api.ErrWord},
		{"set", api.ErrWord}, {"set ", api.ErrWord}, {"set  1", api.ErrWord}, {"set r1", api.ErrWord}, {"set r1 ", api.ErrNumber}, {"set r1  1", api.ErrNumber}, {"set r1 x", api.ErrNumber},
		{"set 1 x", api.ErrWord}, {"set x", api.ErrWord}, {"set r1 x y", api.ErrNumber}, {"set r1 1 1", api.ErrWord}, {"set r1 1 ", api.ErrWord}, {"set r1 r1", api.ErrNumber}, {"set r8 x", api.ErrWord}, {"set r1 x ", api.ErrNumber},
		{"add r1 r2", api.ErrWord}, {"add r1 r2 3", api.ErrWord}, {"add r1 r2 r3 r4", api.ErrWord}, {"add r1 r2 r8", api.ErrWord}, {"add r1  r2 r3", api.ErrWord}, {"add 1 2 3", api.ErrWord},
		{"load r1 r2", api.ErrWord}, {"load r1 r2 r3", api.ErrNumber}, {"load r1 r2 256", api.ErrNumber}, {"load r1 r2 256 x", api.ErrNumber}, {"load r1 r2 8", api.ErrWord}, {"load r1 r2 08 1", api.ErrNumber},
		{"load r1 8 8 1", api.ErrWord}, {"load r1 r2 8 x", api.ErrNumber}, {"load r1 r2 8 1 1", api.ErrWord}, {"save r1 r2 256 1", api.ErrNumber}, {"save r1 r2 r3 1", api.ErrNumber}, {"save r1 x 256 1", api.ErrWord},
		{"copy r1", api.ErrWord}, {"copy r1 1", api.ErrWord}, {"copy r1 r2 r3", api.ErrWord}, {"input r1 r2", api.ErrWord}, {"input r1 2 x", api.ErrWord}, {"input r1 r2 x", api.ErrNumber}, {"input r1 r2 1 1", api.ErrWord},
		{"length", api.ErrWord}, {"length 1", api.ErrWord}, {"length r1 1", api.ErrWord}, {"jump", api.ErrWord}, {"jump r1", api.ErrNumber}, {"jump -1", api.ErrNumber}, {"jump 1 1", api.ErrWord}, {"jump x 1", api.ErrNumber},
		{"call", api.ErrWord}, {"call r0", api.ErrNumber}, {"call 0 0", api.ErrWord}, {"branch r1", api.ErrWord}, {"branch 1 1", api.ErrWord}, {"branch r1 r2", api.ErrNumber}, {"branch r1 1 1", api.ErrWord},
	} {
		wanted(t, head+x.s, x.e, 4)
		wanted(t, head+"\n# \nset r1 1\n"+x.s+"\nNo\n", x.e, 7)
	}
}

// P4.2: numbers, small numbers, registers and hex at their edges, and what is none.
func TestParseKinds(t *testing.T) {
	set := func(w string) string { return "rb64 8 1 1\nfun\nset r1 " + w + "\nhalt" }
	for w, n := range map[string]uint64{"0": 0, "1": 1, "9": 9, "10": 10, "255": 255, "256": 256, "18446744073709551615": math.MaxUint64, "9223372036854775808": 1 << 63} {
		if p, e, _ := Parse(set(w)); e != api.OK || p.Code[0] != (api.Ins{Op: api.Set, A: 1, Imm: n}) {
			t.Error(w, p, e)
		}
	}
	for _, w := range []string{
		"18446744073709551616", "18446744073709551617", "18446744073709551620", "28446744073709551615", "99999999999999999999", "184467440737095516150", "36893488147419103232", "340282366920938463463374607431768211456",
		"1" + strings.Repeat("0", 5000), strings.Repeat("0", 30), "00", "01", "007", "018446744073709551615", "-0", "-1", "+1", "1.", "1.0", "1e3", "0x1", "0b1", "0o7", "1_000", "1,000", "x", "1x", "x1", "٣", "1\x00", "\x001", "1\t", "\xff", "½",
	} {
		wanted(t, set(w), api.ErrNumber, 3)
	}
	for n := range 300 {
		e, line := api.ErrField, 0
		if n == 1 || n == 2 || n == 4 || n == 8 {
			e = api.OK
		}
		if n > 255 {
			e, line = api.ErrNumber, 3
		}
		wanted(t, fmt.Sprintf("rb64 8 1 1\nfun\nload r1 r2 %d 0\nhalt", n), e, line)
		wanted(t, fmt.Sprintf("rb64 8 1 1\nfun\nsave r1 r2 %d 0\nhalt", n), e, line)
		look(t, fmt.Sprintf("rb64 %d 1 1\nfun\nhalt", n))
		look(t, fmt.Sprintf("rb64 1 %d 1\nfun\nhalt", n))
		look(t, fmt.Sprintf("rb64 1 1 %d\nfun\nhalt", n))
	}
	for _, w := range []string{"18446744073709551615", "18446744073709551616", "4294967297", "257", "1000", "0255", "2560"} {
		wanted(t, "rb64 1 "+w+" 1\nfun\nhalt", api.ErrNumber, 1)
	}
}

// P4.2: r0 to r7 in each part, and what is no register.
func TestParseRegisters(t *testing.T) {
	for n := range 8 {
		p, e, _ := Parse(fmt.Sprintf("rb64 1 1 1\nfun\nadd r%d r%d r%d\nhalt", n, 7-n, (n+3)%8))
		if e != api.OK || p.Code[0] != (api.Ins{Op: api.Add, A: n, B: 7 - n, C: (n + 3) % 8}) {
			t.Error(n, p, e)
		}
	}
	for _, w := range []string{"r8", "r9", "r10", "r00", "r01", "r", "R1", "R", "1", "rr", "r-1", "r/", "r:", "r1x", "xr1", "r1\t", "r\x00", "r\xff", "s1", "q1", "", "r٣"} {
		for _, form := range []string{"add %s r1 r2", "add r1 %s r2", "add r1 r2 %s"} {
			wanted(t, head+fmt.Sprintf(form, w), api.ErrWord, 4)
		}
	}
	for c := range 256 {
		look(t, head+"length r"+string([]byte{byte(c)}))
		look(t, head+"length "+string([]byte{byte(c)})+"1")
	}
}

// P4.2: hex of one byte, of as many as Mem, and of one more; and what is no hex.
func TestParseHex(t *testing.T) {
	data := func(w string) string { return "rb64 64 1 1\ndata " + w + "\nfun\nhalt\n" }
	for n := range 256 {
		for _, w := range []string{fmt.Sprintf("%02x", n), fmt.Sprintf("00%02xff", n)} {
			want, _ := hex.DecodeString(w)
			if p, e, _ := Parse(data(w)); e != api.OK || !slices.Equal(p.Data, want) {
				t.Error(w, p, e)
			}
		}
		look(t, data("0"+string([]byte{byte(n)})))
		look(t, data(string([]byte{byte(n)})+"0"))
		look(t, data("00"+string([]byte{byte(n)})))
	}
	wanted(t, data(strings.Repeat("a5", 64)), api.OK, 0)
	wanted(t, data(strings.Repeat("a5", 65)), api.ErrRange, 0)
	wanted(t, data(strings.Repeat("a5", 300)), api.ErrRange, 0)
	wanted(t, "rb64 1 1 1\ndata 00\nfun\nhalt", api.OK, 0)
	wanted(t, "rb64 1 1 1\ndata 0000\nfun\nhalt", api.ErrRange, 0)
	wanted(t, "rb64 0 1 1\ndata 00\nfun\nhalt", api.ErrRange, 0)
	for _, w := range []string{"", "0", "000", "0G", "0g", "g0", "A0", "0F", "fF", "0x00", "00-", "-0", "+0", "r1", "é", "00 ", "00 00", " 00", "0\x00", "00\t", "zz", "//", "::", "``", "@@"} {
		wanted(t, data(w), api.ErrWord, 2)
	}
	wanted(t, "rb64 1 1 1\ndata", api.ErrWord, 2)
	wanted(t, "rb64 1 1 1\ndata\nNo", api.ErrWord, 2)
}

// P4.2: listings whose lines are right, but not the image they tell: 0 as the line, and layer 3's error.
func TestParseImage(t *testing.T) {
	for _, x := range []struct {
		s string
		e api.Errno
	}{
		{"rb64 1 1 1", api.ErrRange}, {"rb64 1 1 1\ndata 00", api.ErrRange}, {"rb64 1 1 1\nfun", api.ErrRange}, {"rb64 1 1 1\nfun\nfun\nhalt", api.ErrRange}, {"rb64 1 1 1\nfun\nhalt\nfun", api.ErrRange},
		{"rb64 65 1 1\nfun\nhalt", api.ErrRange}, {"rb64 1 17 1\nfun\nhalt", api.ErrRange}, {"rb64 1 1 17\nfun\nhalt", api.ErrRange}, {"rb64 255 255 255\nfun\nhalt", api.ErrRange},
		{"rb64 64 16 16\nfun\nhalt", api.OK}, {"rb64 0 0 0\nfun\nhalt", api.OK},
		{"rb64 1 1 1\n" + strings.Repeat("fun\nhalt\n", 16), api.OK}, {"rb64 1 1 1\n" + strings.Repeat("fun\nhalt\n", 17), api.ErrRange},
		{"rb64 1 1 1\nfun\n" + strings.Repeat("halt\n", 256), api.OK}, {"rb64 1 1 1\nfun\n" + strings.Repeat("halt\n", 257), api.ErrRange}, {"rb64 1 1 1\nfun\n" + strings.Repeat("halt\n", 5000), api.ErrRange},
		{"rb64 1 1 1\nfun\nload r1 r1 3 0\nhalt", api.ErrField}, {"rb64 1 1 1\nfun\nsave r1 r1 0 0\nhalt", api.ErrField}, {"rb64 1 1 1\nfun\nsave r1 r1 255 0\nhalt", api.ErrField},
		{"rb64 1 1 1\nfun\nset r1 1", api.ErrFlow}, {"rb64 1 1 1\nfun\njump 1", api.ErrFlow}, {"rb64 1 1 1\nfun\njump 18446744073709551615", api.ErrFlow}, {"rb64 1 1 1\nfun\ncall 1\nhalt", api.ErrFlow}, {"rb64 1 1 1\nfun\nhalt\nfun\nbranch r1 0\nhalt", api.ErrFlow},
		{"rb64 65 1 1\nfun\nload r1 r1 3 0", api.ErrRange}, {"rb64 1 1 1\nfun\nload r1 r1 3 0", api.ErrField}, {"rb64 1 1 1\nfun\njump 9\nload r1 r1 3 0", api.ErrField},
	} {
		wanted(t, x.s, x.e, 0)
		wanted(t, x.s+"\n", x.e, 0)
		wanted(t, x.s+"\n\n#", x.e, 0)
	}
}

// P4.2: of several faults in several lines the first line's is told, ahead of what the image is; a line that may not stand there is looked at in its place.
func TestParseFirstLine(t *testing.T) {
	for _, x := range []struct {
		s    string
		e    api.Errno
		line int
	}{
		{"rb64 65 99 99\nfun\nload r1 r1 3 0\nset r1 x\nNo", api.ErrNumber, 4},
		{"rb64 1 1 1\nfun\nNo\nset r1 x", api.ErrWord, 3},
		{"rb64 1 1 1\nfun\nset r1 x\nNo\nrb64", api.ErrNumber, 3},
		{"rb64 1 1 1\nfun\nrb64\nset r1 x", api.ErrForm, 3},
		{"rb64 1 1 1\n\n\nfun\n#\nset r1 x\n#\nNo", api.ErrNumber, 6},
		{"rb64 1 1 1\nfun\n" + strings.Repeat("halt\n", 300) + "halt r1", api.ErrWord, 303},
		{"rb64 1 1 1\n" + strings.Repeat("fun\n", 30) + "\n\ndata 00", api.ErrForm, 34},
		{"halt\nNo", api.ErrForm, 1}, {"No\nhalt", api.ErrWord, 1}, {"rb64 x\nhalt", api.ErrNumber, 1},
	} {
		wanted(t, x.s, x.e, x.line)
	}
}

// silent is s with lines that say nothing ahead of each of its lines and behind the last, as picked.
func silent(s string, pick func() string) string {
	var b strings.Builder
	for line := range strings.SplitAfterSeq(s, "\n") {
		b.WriteString(pick())
		b.WriteString(line)
	}
	return b.String()
}

// P4.3: what is printed is parsed as it was, whole, without the byte 10 at its end, with one line that says nothing put in at each place, and with many at all of them.
func TestRoundTrip(t *testing.T) {
	d := draw(5)
	for _, p := range samples() {
		s := printed(t, p)
		texts := []string{s, strings.TrimSuffix(s, "\n"), s + "\n", s + "#", s + "#\n", s + "\n\n#\n\n", "\n" + s, "#rb64\n" + s, "#\xff\x00 \t\r\n\n" + s}
		lines := strings.Split(s, "\n")
		for n := range lines {
			texts = append(texts, strings.Join(slices.Insert(slices.Clone(lines), n, ""), "\n"), strings.Join(slices.Insert(slices.Clone(lines), n, "# halt"), "\n"))
		}
		for range 40 {
			texts = append(texts, silent(s, func() string {
				return strings.Join([]string{"", "\n", "#\n", "#halt\n", "# rb64 1 1 1\n", "## \r\n", "#\x00\xff\n"}[d.below(7):], "")
			}))
		}
		for _, s := range texts {
			if q, e, line := Parse(s); !image.Same(p, q) || e != api.OK || line != 0 {
				t.Fatalf("%q: %v %v %v", s, q, e, line)
			}
		}
	}
}

// draw is a row of numbers that looks like chance, the same each time.
type draw uint64

func (d *draw) below(n int) int {
	*d = *d*6364136223846793005 + 1442695040888963407
	return int(uint64(*d) >> 33 % uint64(n))
}

// some is an image that often is right.
func some(d *draw) api.Image {
	p := api.Image{Mem: d.below(65), Stack: d.below(17), Input: d.below(17)}
	for range d.below(p.Mem+1) * d.below(2) {
		p.Data = append(p.Data, byte(d.below(256)))
	}
	for range 1 + d.below(4) {
		p.Funs = append(p.Funs, len(p.Code))
		from := len(p.Code)
		for range d.below(5) {
			i := someIns(d)
			if i.Op == api.Jump || i.Op == api.Branch {
				i.Imm = uint64(from)
			}
			if i.Op == api.Call {
				i.Imm = 0
			}
			if _, e := code.Put(i); e == api.OK || d.below(40) == 0 {
				p.Code = append(p.Code, i)
			}
		}
		p.Code = append(p.Code, api.Ins{Op: []int{api.Halt, api.Back, api.Fail}[d.below(3)]})
	}
	return p
}

// P4.1, P4.3: images of all kinds: layer 3's error, or a listing that is parsed as the image was, and whose lines are those of its instructions.
func TestPrintMany(t *testing.T) {
	d := draw(8)
	right := 0
	for range 20000 {
		p := some(&d)
		s, e := Print(p)
		if _, layer3 := image.Encode(p); e != layer3 || e != api.OK && s != "" {
			t.Fatalf("%v: %q %v, not %v", p, s, e, layer3)
		}
		if e != api.OK {
			continue
		}
		right++
		want := fmt.Sprintf("rb64 %d %d %d\n", p.Mem, p.Stack, p.Input)
		if len(p.Data) > 0 {
			want += fmt.Sprintf("data %x\n", p.Data)
		}
		for place, i := range p.Code {
			if slices.Contains(p.Funs, place) {
				want += "fun\n"
			}
			want += lineOf(i) + "\n"
		}
		if q, f, line := Parse(s); s != want || !image.Same(p, q) || f != api.OK || line != 0 {
			t.Fatalf("%v: %q, not %q; %v %v %v", p, s, want, q, f, line)
		}
	}
	if right < 10000 {
		t.Error(right)
	}
}

// turned is s with some bytes, words or lines turned, left out, doubled or put in.
func turned(d *draw, s string) string {
	const letters = " \n#r0178abfgx=-\t\r\x00\xff"
	words := []string{"", "r0", "r7", "r8", "0", "255", "256", "01", "18446744073709551616", "00ff", "0F", "halt", "rb64", "data", "fun", "#"}
	for range 1 + d.below(3) {
		sep := []string{"", " ", "\n"}[d.below(3)]
		x := strings.Split(s, sep)
		if len(x) == 0 {
			continue
		}
		at, other := d.below(len(x)), d.below(len(x))
		put := string(letters[d.below(len(letters))])
		if sep != "" && d.below(2) == 0 {
			put = words[d.below(len(words))]
		}
		switch d.below(5) {
		case 0:
			x = slices.Delete(x, at, at+1)
		case 1:
			x = slices.Insert(x, at, put)
		case 2:
			x[at] = put
		case 3:
			x[at], x[other] = x[other], x[at]
		case 4:
			x = slices.Insert(x, at, x[other])
		}
		s = strings.Join(x, sep)
	}
	return s
}

// P4.2: listings that are nearly right, against the chapter's rules written a second time.
func TestParseMany(t *testing.T) {
	d := draw(13)
	counts := map[api.Errno]int{}
	texts := []string{example, everyText, head, head + "load r1 r2 8 0\nadd r1 r2 r3\nback\n", "rb64 4 2 3\ndata 0908\nfun\ncall 1\nbranch r1 0\nhalt\nfun\nset r3 0\ninput r1 r2 5\nback\n"}
	for n := range 60000 {
		counts[look(t, turned(&d, texts[n%len(texts)]))]++
	}
	for _, e := range []api.Errno{api.OK, api.ErrForm, api.ErrRange, api.ErrFlow, api.ErrWord, api.ErrNumber} {
		if counts[e] < 100 {
			t.Errorf("%v: only %d", e, counts[e])
		}
	}
}

// Rule 5: texts of great length end as others do.
func TestLong(t *testing.T) {
	const n = 1 << 20
	wanted(t, strings.Repeat("\n", n)+"No", api.ErrWord, n+1)
	wanted(t, strings.Repeat(" ", n), api.ErrWord, 1)
	wanted(t, head+"halt"+strings.Repeat(" ", n), api.ErrWord, 4)
	wanted(t, head+"jump "+strings.Repeat("9", 1<<14), api.ErrNumber, 4)
	wanted(t, "rb64 1 1 1\ndata "+strings.Repeat("0", n)+"\nfun\nhalt", api.ErrRange, 0)
	wanted(t, "#"+strings.Repeat("x", n)+"\nrb64 1 1 1\nfun\nhalt", api.OK, 0)
}

// Rule 3: what is handed in stays as it was, its spare room too, and answers are new memory.
func TestMemory(t *testing.T) {
	p := every()
	data, funs, ins := append(p.Data, 90, 91), append(p.Funs, 92, 93), append(p.Code, api.Ins{Op: 94}, api.Ins{Op: 95})
	wasData, wasFuns, wasIns := slices.Clone(data), slices.Clone(funs), slices.Clone(ins)
	p.Data, p.Funs, p.Code = data[:len(p.Data)], funs[:len(p.Funs)], ins[:len(p.Code)]
	s := printed(t, p)
	if !slices.Equal(data, wasData) || !slices.Equal(funs, wasFuns) || !slices.Equal(ins, wasIns) {
		t.Error("lists were changed")
	}
	q, _, _ := Parse(s)
	r, _, _ := Parse(s)
	q.Data[1], q.Funs[1], q.Code[1].A = 5, 6, 7
	_, _, _ = append(q.Data, 1), append(q.Funs, 1), append(q.Code, api.Ins{})
	if !image.Same(r, every()) || printed(t, p) != s {
		t.Error("two answers share memory")
	}
}
