package workbench

import (
	"strconv"
	"strings"

	"stutter/api"
)

func digest(body string) int {
	const factor, modulus = 257, 1000003
	d := 0
	for i := range len(body) {
		d = (d*factor + int(body[i]) + 1) % modulus
	}
	return d
}

func bodyOf(a api.WorkAct) string {
	return strings.Join(append([]string{a.Text.Name}, a.Text.Lines...), "\n")
}

func recordOf(a api.WorkAct) string {
	sign, body := "+", bodyOf(a)
	if a.Remove {
		sign = "-"
	}
	return sign + strconv.Itoa(len(body)) + ":" + body + ";" + strconv.Itoa(digest(body)) + ";"
}

// JournalOf returns the records of acts.
func JournalOf(acts []api.WorkAct) (string, api.Errno) {
	if _, err := CheckActs(acts); err != api.OK {
		return "", err
	}
	var out strings.Builder
	for _, a := range acts {
		out.WriteString(recordOf(a))
	}
	if out.Len() > api.MaxWorkJournal {
		return "", api.ErrLarge
	}
	return out.String(), api.OK
}

// Recovered returns the acts of a journal up to the first place where no record stands, and where that is.
func Recovered(journal string) ([]api.WorkAct, int, api.Errno) {
	if len(journal) > api.MaxWorkJournal {
		return nil, 0, api.ErrLarge
	}
	var acts []api.WorkAct
	at := 0
	for len(acts) < api.MaxWorkActs {
		a, size := first(journal[at:])
		if size == 0 {
			break
		}
		acts = append(acts, a)
		at += size
	}
	return acts, at, api.OK
}

// first returns the act of the record with which a journal begins, and its length, or 0 if there is no right one.
func first(journal string) (api.WorkAct, int) {
	if journal == "" {
		return api.WorkAct{}, 0
	}
	size, rest, _ := strings.Cut(journal[1:], ":")
	n, err := strconv.Atoi(size)
	if err != nil || n < 0 || n > len(rest) {
		return api.WorkAct{}, 0
	}
	lines := strings.Split(rest[:n], "\n")
	a := api.WorkAct{Remove: journal[0] == '-', Text: api.WorkText{Name: lines[0], Lines: lines[1:]}}
	if _, err := CheckActs([]api.WorkAct{a}); err != api.OK {
		return api.WorkAct{}, 0
	}
	// What is written otherwise than a record of this act is none.
	record := recordOf(a)
	if !strings.HasPrefix(journal, record) {
		return api.WorkAct{}, 0
	}
	return a, len(record)
}

// Compacted returns a journal of the texts that there are at the end.
func Compacted(journal string) (string, api.Errno) {
	acts, _, err := Recovered(journal)
	if err != api.OK {
		return "", err
	}
	var l []api.WorkText
	for _, a := range acts {
		l, _ = applied(l, a)
	}
	var kept []api.WorkAct
	for _, t := range l {
		kept = append(kept, api.WorkAct{Text: t})
	}
	return JournalOf(kept)
}
