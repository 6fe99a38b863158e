"""Texts of bodies over the sample book, for the tests."""
from tests.making import lines

LOOP = lines("while more", "  do work", "  put undo on error", "end", "return 1")

# Bodies that differ in their texts and not in their runs.
ALIKE = (
    # Actions that are dead at each leaving.
    (LOOP, lines("while more", "  do work", "  put undo on error", "end", "put gain on error", "return 1")),
    ("return 1", lines("put undo on error", "return 1", "put work on done")),
    (lines("put work on done", "raise x"), "raise x"),
    (lines("put work on always", "raise x"), lines("put work on error", "raise x")),
    ("put work on done [undo on error]", "put work on done"),
    ("put work on done [undo on done]", lines("put undo on done", "put work on done")),
    (lines("put cure on done [work on always]"), lines("put work on done", "put cure on done")),
    # An action moved over a choice, and over a question.
    (lines("put work on done", "if a", "  put undo on error", "end"),
     lines("if a", "  put work on done", "  put undo on error", "else", "  put work on done", "end")),
    (lines("put work on done", "do gain", "put turn on done"), lines("do gain", "put work on done", "put turn on done")),
    (lines("put work on done", "if a", "  return 1", "end", "leave x"),
     lines("if a", "  put work on done", "  return 1", "end", "put work on done", "leave x")),
    # Two actions that are put later, each behind another question.
    (lines("put work on done", "put undo on done", "if a", "end", "if b", "end"),
     lines("if a", "end", "put work on done", "if b", "end", "put undo on done")),
    # A loop unrolled once, and a loop that is turned.
    (LOOP, lines("if more", "  do work", "  put undo on error", *LOOP.split("\n")[:-1], "end", "return 1")),
    (lines("put work on done", "while a", "  put undo on done", "  put work on done", "end"),
     lines("while a", "  put work on done", "  put undo on done", "end", "put work on done")),
    # Choices that make no difference.
    ("if a\nend", lines("if a", "else", "end")),
    (lines("if a", "  put work on done", "else", "  put work on done", "end"), lines("if a", "end", "put work on done")),
    (lines("while a", "  while a", "  end", "end"), lines("while a", "  if a", "    while a", "    end", "  end", "end")),
)
ALIKE_WITH_A_CELL = (
    (lines("set n 1", "put work(n) on done", "return n"), lines("put work(1) on done", "set n 1", "return 1")),
    (lines("put work(late n) on done", "set n 2"), lines("set n 2", "put work(n) on done")),
    (lines("put work(n) on done", "if a", "  set n 1", "end"),
     lines("put work(0) on done", "if a", "  set n 1", "end")),
    (lines("if a", "  set n 1", "end", "put work(n) on done"),
     lines("put work(late n) on done", "if a", "  set n 1", "end")),
)
DIFFERENT = (
    ("return 1", "return 2"), ("return 1", "leave x"), ("do work", "do undo"), ("do work", "do work(0)"),
    ("if a\nend", "if b\nend"), ("do work", "if work\nend"), ("do work", ""), ("if a\nend", lines("if a", "end", "if a", "end")),
    ("put work on done", ""), ("put work on done", "put work(1) on done"), ("put work on done", "put undo on done"),
    (lines("put work on done", "put undo on done"), lines("put undo on done", "put work on done")),
    (lines("put undo on error", "put work on done"), "put work on done"),
    (lines("put undo on error", "put turn on error", "put work on done"),
     lines("put turn on error", "put undo on error", "put work on done")),
    ("put work on done [undo on error; gain on done]", lines("put undo on error", "put gain on done", "put work on done")),
    ("put work on done [undo on error; gain on done]", "put work on done [turn on error; gain on done]"),
    (lines("put undo on done", "put work on done [undo on error; gain on done]"),
     lines("put turn on done", "put work on done [undo on error; gain on done]")),
    (lines("put gain on done [undo on error; cure on done [turn on error; work on done]]"),
     lines("put gain on done [undo on error; cure on done [undo on error; work on done]]")),
    (lines("put work on error", "put undo on done", "put gain on done"),
     lines("put undo on done", "put work on error", "put gain on done")),
    (LOOP, LOOP.replace("undo", "turn")), (LOOP, LOOP.replace("error", "always")),
    (LOOP, LOOP.replace("  put", "  put undo on error\n  put")),
    (lines("while a", "  put work on done", "end"), lines("while a", "  put work on done", "  put work on done", "end")),
    (lines("while a", "  put work on done", "end"), lines("put work on done", "while a", "  put work on done", "end")),
    (lines("while a", "  put work on done", "  put undo on done", "end"),
     lines("while a", "  put undo on done", "  put work on done", "end")),
    # One of the two puts `work` later, on one way too late; `undo` is dead.
    (lines("put work on done", "put undo on error", "if a", "end"), lines("if a", "else", "  put work on done", "end")),
    # A loop that is unrolled once, so the two plans have other numbers for the same leaving.
    (lines("while b", "  if a", "    leave x", "  end", "  put work on done", "end", "raise y"),
     lines("if b", "  if a", "    leave x", "  end", "  put work on done", "  while b", "    if a", "      leave x", "    end",
           "    put undo on done", "  end", "end", "raise y")),
    # Rows that differ in what one of their answers puts.
    (lines("if a", "  if b", "  else", "    put gain on done", "  end", "else", "  if b", "  else", "    put cure on done",
           "  end", "end"), lines("if a", "end", "if b", "else", "  put gain on done", "end")),
    (lines("if a", "  if b", "    put gain on done", "  end", "else", "  if b", "    put cure on done", "  end", "end"),
     lines("if a", "end", "if b", "  put gain on done", "end")),
    # These differ in the third turn first.
    (lines("while a", "  put work on done", "end"),
     lines("if a", "  put work on done", "  if a", "    put work on done", "    while a", "      put undo on done", "    end",
           "  end", "end")),
)
