package tests

import (
	"math"
	"math/rand"
	"strings"
	"testing"

	"loop.example/s01858/impl"
)

func TestRespondConstants(t *testing.T) {
	for i, c := range [][2]int64{
		{impl.FlagDO, 32768}, {impl.TransferSize, 4096},
		{impl.TriageDrop, 1}, {impl.TriageForm, 2}, {impl.TriageOp, 3}, {impl.TriageVersion, 4}, {impl.TriageUpdate, 5}, {impl.TriageQuery, 6},
		{impl.CaseDrop, 1}, {impl.CaseForm, 2}, {impl.CaseOp, 3}, {impl.CaseVersion, 4}, {impl.CaseSign, 5}, {impl.CaseUpdate, 6},
		{impl.CaseRefused, 7}, {impl.CaseTransfer, 8}, {impl.CaseMeta, 9}, {impl.CaseAnswer, 10},
	} {
		if c[0] != c[1] {
			t.Errorf("constant %d is %d, want %d", i, c[0], c[1])
		}
	}
}

func checkEdns(t *testing.T, tell string, m impl.Message, want impl.Edns, code int64) {
	t.Helper()
	if got, gotCode := impl.ReadEdns(m); !sameEdns(got, want) || gotCode != code {
		t.Errorf("%s: ReadEdns(%s) = %.300v, %d, want %.300v, %d", tell, tellMessage(m), got, gotCode, want, code)
	}
}

// beside is a message with a record in its extra list, and others around it.
func beside(rr impl.RR) impl.Message {
	a := rrOf(inEx(), impl.TypeA, "abcd")
	return impl.Message{Answer: []impl.RR{a}, Authority: []impl.RR{a}, Extra: []impl.RR{a, rr, a}}
}

func TestReadEdns(t *testing.T) {
	says := func(size, version, flags int64, options ...impl.Option) impl.Edns {
		return impl.Edns{Present: true, Size: size, Version: version, Flags: flags, Options: options}
	}
	long := strings.Repeat("x", 65535)
	for tell, c := range map[string]struct {
		rr   impl.RR
		want impl.Edns
	}{
		"all zero":       {optOf(0, 0), says(0, 0, 0)},
		"a size":         {optOf(512, 0), says(512, 0, 0)},
		"size 255":       {optOf(255, 0), says(255, 0, 0)},
		"size 256":       {optOf(256, 0), says(256, 0, 0)},
		"size 65535":     {optOf(65535, 0), says(65535, 0, 0)},
		"size 65536":     {optOf(65536, 0), says(65536, 0, 0)},
		"size -1":        {optOf(-1, 0), says(-1, 0, 0)},
		"DO":             {optOf(1232, 32768), says(1232, 0, 32768)},
		"other flags":    {optOf(1232, 1), says(1232, 0, 1)},
		"flags 32767":    {optOf(1232, 32767), says(1232, 0, 32767)},
		"all flags":      {optOf(1232, 65535), says(1232, 0, 65535)},
		"version 1":      {optOf(4096, 65536), says(4096, 1, 0)},
		"version 255":    {optOf(4096, 255*65536+32768), says(4096, 255, 32768)},
		"a code":         {optOf(4096, 16777216), says(4096, 0, 0)},
		"code 255":       {optOf(4096, 255*16777216+2*65536+3), says(4096, 2, 3)},
		"all bits":       {optOf(4096, 4294967295), says(4096, 255, 65535)},
		"33 bits":        {optOf(4096, 4294967296), says(4096, 0, 0)},
		"and more":       {optOf(4096, 4294967296+65536+32768), says(4096, 1, 32768)},
		"high bits":      {optOf(4096, 0x7fffffff00000000), says(4096, 0, 0)},
		"63 bits":        {optOf(4096, math.MaxInt64), says(4096, 255, 65535)},
		"below 0":        {optOf(4096, -1), says(4096, 255, 65535)},
		"far below 0":    {optOf(4096, math.MinInt64), says(4096, 0, 0)},
		"an option":      {optOf(0, 0, optionOf(10, "ab")), says(0, 0, 0, impl.Option{Code: 10, Data: "ab"})},
		"an empty one":   {optOf(0, 0, optionOf(0, "")), says(0, 0, 0, impl.Option{})},
		"the last code":  {optOf(0, 0, optionOf(65535, "\x00")), says(0, 0, 0, impl.Option{Code: 65535, Data: "\x00"})},
		"codes 255, 256": {optOf(0, 0, optionOf(255, "a"), optionOf(256, "b")), says(0, 0, 0, impl.Option{Code: 255, Data: "a"}, impl.Option{Code: 256, Data: "b"})},
		"the same twice": {optOf(0, 0, optionOf(3, "x"), optionOf(3, "x")), says(0, 0, 0, impl.Option{Code: 3, Data: "x"}, impl.Option{Code: 3, Data: "x"})},
		"several, empty ones among them": {
			optOf(1, 2, optionOf(9, ""), optionOf(8, "abc"), optionOf(7, ""), optionOf(6, "\x00\x01\x00\x00"), optionOf(5, "")),
			says(1, 0, 2, impl.Option{Code: 9}, impl.Option{Code: 8, Data: "abc"}, impl.Option{Code: 7}, impl.Option{Code: 6, Data: "\x00\x01\x00\x00"}, impl.Option{Code: 5}),
		},
		"255 bytes":            {optOf(0, 0, optionOf(1, long[:255])), says(0, 0, 0, impl.Option{Code: 1, Data: long[:255]})},
		"256 bytes":            {optOf(0, 0, optionOf(1, long[:256])), says(0, 0, 0, impl.Option{Code: 1, Data: long[:256]})},
		"as much as there may": {optOf(0, 0, optionOf(1, long[:65531])), says(0, 0, 0, impl.Option{Code: 1, Data: long[:65531]})},
		"more than there may":  {optOf(0, 0, optionOf(1, long), optionOf(2, "y")), says(0, 0, 0, impl.Option{Code: 1, Data: long}, impl.Option{Code: 2, Data: "y"})},
	} {
		checkEdns(t, tell, impl.Message{Extra: []impl.RR{c.rr}}, c.want, impl.OK)
		checkEdns(t, tell+" beside others", beside(c.rr), c.want, impl.OK)
	}
	checkEdns(t, "no record", impl.Message{}, impl.Edns{}, impl.OK)
	checkEdns(t, "none of that type", beside(rrOf(root, 42, "x")), impl.Edns{}, impl.OK)
	checkEdns(t, "a question for it", asking(root, impl.TypeOPT, 1), impl.Edns{}, impl.OK)
}

func TestReadEdnsIll(t *testing.T) {
	good := optOf(4096, 32768)
	for tell, data := range map[string]string{
		"one byte":             "\x00",
		"two bytes":            "\x00\x0a",
		"three bytes":          "\x00\x0a\x00",
		"no data":              "\x00\x0a\x00\x01",
		"a byte lacks":         "\x00\x0a\x00\x03ab",
		"a byte too many":      "\x00\x0a\x00\x01ab",
		"a rest of three":      optionOf(10, "ab") + "\x00\x0a\x00",
		"the second is short":  optionOf(10, "ab") + "\x00\x0a\x00\x01",
		"the high byte counts": "\x00\x0a\x01\x00x",
	} {
		checkEdns(t, tell, impl.Message{Extra: []impl.RR{optOf(4096, 0, data)}}, impl.Edns{}, impl.ErrForm)
	}
	for tell, owner := range map[string]string{"no root": nm("a"), "no name": "", "root twice": "\x00\x00", "a label": "\x01", "long": nameOf(255)} {
		rr := good
		rr.Owner = owner
		checkEdns(t, tell, impl.Message{Extra: []impl.RR{rr}}, impl.Edns{}, impl.ErrForm)
		checkEdns(t, tell+" beside others", beside(rr), impl.Edns{}, impl.ErrForm)
	}
	a := rrOf(inEx(), impl.TypeA, "abcd")
	for tell, m := range map[string]impl.Message{
		"in answer":             {Answer: []impl.RR{good}},
		"in authority":          {Authority: []impl.RR{good}},
		"in answer behind one":  {Answer: []impl.RR{a, good}},
		"in authority too":      {Authority: []impl.RR{a, good}, Extra: []impl.RR{good}},
		"in answer too":         {Answer: []impl.RR{good}, Extra: []impl.RR{good}},
		"twice":                 {Extra: []impl.RR{good, good}},
		"twice, apart":          {Extra: []impl.RR{good, a, good}},
		"twice, another":        {Extra: []impl.RR{good, a, optOf(512, 0)}},
		"the second not rooted": {Extra: []impl.RR{good, {Owner: nm("a"), Type: impl.TypeOPT}}},
		"three times":           {Extra: []impl.RR{good, good, good}},
	} {
		checkEdns(t, tell, m, impl.Edns{}, impl.ErrForm)
	}
}

func checkEdnsRecord(t *testing.T, tell string, size, code, flags int64, options []impl.Option, want impl.RR, wantCode int64) {
	t.Helper()
	got, gotCode := impl.EdnsRecord(size, code, flags, options)
	if got != want || gotCode != wantCode {
		t.Errorf("%s: EdnsRecord(%d, %d, %d, %.100v) = %s, %d, want %s, %d", tell, size, code, flags, options,
			tellRecords([]impl.RR{got}), gotCode, tellRecords([]impl.RR{want}), wantCode)
	}
}

func TestEdnsRecord(t *testing.T) {
	for _, size := range []int64{0, 1, 255, 256, 512, 4096, 65535} {
		for _, code := range []int64{0, 1, 15, 16, 127, 128, 254, 255} {
			for _, flags := range []int64{0, 1, 255, 256, 32767, 32768, 65535} {
				checkEdnsRecord(t, "numbers", size, code, flags, nil, optOf(size, code*16777216+flags), impl.OK)
			}
		}
	}
	option := func(code int64, data string) impl.Option { return impl.Option{Code: code, Data: data} }
	for _, options := range [][]impl.Option{
		{option(10, "ab")}, {option(0, "")}, {option(255, "x"), option(256, "y")}, {option(65535, "\x00\xff")},
		{option(3, ""), option(3, ""), option(2, "abc"), option(1, "")},
	} {
		data := ""
		for _, o := range options {
			data += optionOf(o.Code, o.Data)
		}
		checkEdnsRecord(t, "options", 1232, 1, 32768, options, optOf(1232, 16777216+32768, data), impl.OK)
	}
}

func TestEdnsRecordIll(t *testing.T) {
	for _, n := range []int64{-1, 65536, math.MinInt64, math.MaxInt64, 4294967296, -65536} {
		checkEdnsRecord(t, "size", n, 0, 0, nil, impl.RR{}, impl.ErrForm)
		checkEdnsRecord(t, "flags", 0, 0, n, nil, impl.RR{}, impl.ErrForm)
		checkEdnsRecord(t, "an option's code", 0, 0, 0, []impl.Option{{Code: n}}, impl.RR{}, impl.ErrForm)
		checkEdnsRecord(t, "the last option's code", 0, 0, 0, []impl.Option{{Code: 1}, {Code: n}}, impl.RR{}, impl.ErrForm)
	}
	for _, n := range []int64{-1, 256, 257, 65535, 65536, math.MinInt64, math.MaxInt64} {
		checkEdnsRecord(t, "code", 0, n, 0, nil, impl.RR{}, impl.ErrForm)
	}
}

func TestEdnsRecordSize(t *testing.T) {
	long := strings.Repeat("x", 70000)
	of := func(sizes ...int) []impl.Option {
		var out []impl.Option
		for i, n := range sizes {
			out = append(out, impl.Option{Code: int64(i % 65536), Data: long[:n]})
		}
		return out
	}
	none := make([]int, 20000)
	for tell, c := range map[string]struct {
		options []impl.Option
		fits    bool
	}{
		"all that fits":         {of(65531), true},
		"one more":              {of(65532), false},
		"all of an option":      {of(65535), false},
		"more than an option":   {of(65536), false},
		"far more":              {of(70000), false},
		"two that fit":          {of(32763, 32764), true},
		"one more in two":       {of(32764, 32764), false},
		"an empty one behind":   {of(65527, 0), true},
		"and one more":          {of(65528, 0), false},
		"behind one too many":   {of(65535, 1), false},
		"many empty ones":       {of(none[:16383]...), true},
		"one too many of these": {of(none[:16384]...), false},
		"far too many":          {of(none...), false},
		"three bytes are left":  {append(of(none[:16382]...), of(3)...), true},
		"four are not":          {append(of(none[:16382]...), of(4)...), false},
	} {
		data := ""
		for _, o := range c.options {
			if !c.fits {
				break
			}
			data += optionOf(o.Code, o.Data)
		}
		if c.fits {
			checkEdnsRecord(t, tell, 7, 8, 9, c.options, optOf(7, 8*16777216+9, data), impl.OK)
		} else {
			checkEdnsRecord(t, tell, 7, 8, 9, c.options, impl.RR{}, impl.ErrForm)
		}
	}
}

func TestReadEdnsAny(t *testing.T) {
	r := rand.New(rand.NewSource(155))
	met := map[int64]int{}
	for range 20000 {
		m := someMessage(r, 3)
		for _, list := range recordLists(&m) {
			*list = dropThat(*list, func(rr impl.RR) bool { return rr.Type == impl.TypeOPT && r.Intn(5) > 0 })
		}
		if r.Intn(2) == 0 {
			m.Extra = append(m.Extra, someOpt(r))
		}
		want, code := ednsOf(m)
		checkEdns(t, "any", m, want, code)
		if want.Present {
			code = -1
		}
		met[code]++
	}
	if met[-1] < 1000 || met[impl.OK] < 1000 || met[impl.ErrForm] < 1000 {
		t.Errorf("met: %v", met)
	}
}
