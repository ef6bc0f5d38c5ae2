package peer

import (
	"fmt"
	"strings"

	"purse/api"
)

// showBytes is bytes as a text: short ones whole, long ones by their length and
// ends.
func showBytes(b []byte) string {
	if len(b) <= 40 {
		return fmt.Sprintf("%q", b)
	}
	sum := 0
	for at, c := range b {
		sum += (at + 1) * int(c)
	}
	return fmt.Sprintf("%q..%d.%d", b[:8], len(b), sum)
}

func showVote(v api.Vote) string {
	return fmt.Sprintf("%d%v%s", v.Slot, v.Ballot, showBytes(v.Value))
}

func showEntry(e api.Entry) string {
	return fmt.Sprintf("%d=%s", e.Slot, showBytes(e.Value))
}

// showLetter is a letter with all its fields; those that are zero are left out.
func showLetter(l api.Letter) string {
	names := []string{"?", "prepare", "promise", "accept", "accepted", "reject", "beat", "ask", "learn", "piece"}
	kind := fmt.Sprint("kind", l.Kind)
	if l.Kind > 0 && l.Kind < len(names) {
		kind = names[l.Kind]
	}
	s := fmt.Sprintf("%s %d>%d", kind, l.From, l.To)
	if l.Ballot != (api.Ballot{}) {
		s += fmt.Sprint(" ", l.Ballot)
	}
	if l.Slot != 0 {
		s += fmt.Sprint(" at ", l.Slot)
	}
	if l.Commit != 0 {
		s += fmt.Sprint(" commit ", l.Commit)
	}
	for _, v := range l.Votes {
		s += " vote " + showVote(v)
	}
	for _, e := range l.Entries {
		s += " " + showEntry(e)
	}
	if p := l.Piece; p.Of != 0 || p.At != 0 || p.Sum != 0 || len(p.Data) > 0 {
		s += fmt.Sprintf(" %d of %d %s", p.At, p.Of, showBytes(p.Data))
	}
	return s
}

// showNote is a note with all its fields but Group and those of NoteRight, which
// are zero: else it tells so.
func showNote(n api.Note) string {
	s := ""
	switch n.Kind {
	case api.NotePromise:
		s = fmt.Sprint("promise ", n.Ballot)
		n.Ballot = api.Ballot{}
	case api.NoteVote:
		s = "vote " + showVote(n.Vote)
		n.Vote = api.Vote{}
	case api.NoteEntry:
		s = "entry " + showEntry(n.Entry)
		n.Entry = api.Entry{}
	case api.NoteImage:
		s = "image " + showEntry(n.Entry)
		n.Entry = api.Entry{}
	}
	n.Kind = 0
	if rest := fmt.Sprint(n); rest != fmt.Sprint(api.Note{}) {
		s += " and " + rest
	}
	return s
}

// show is a Ready: notes; letters; what is chosen; an image.
func show(r api.Ready) string {
	var notes, letters, chosen []string
	for _, n := range r.Notes {
		notes = append(notes, showNote(n))
	}
	for _, l := range r.Letters {
		letters = append(letters, showLetter(l))
	}
	for _, e := range r.Chosen {
		chosen = append(chosen, showEntry(e))
	}
	s := strings.Join(notes, ", ") + "; " + strings.Join(letters, ", ") + "; " + strings.Join(chosen, ", ")
	if r.Index != 0 || len(r.Image) > 0 {
		s += fmt.Sprintf("; image %d=%s", r.Index, showBytes(r.Image))
	}
	return s
}
