"""Parting answers: those for which the runs of two charts differ."""

from exitdeeds.charts import links_by_target, out_row_of
from exitdeeds.exits import after, state
from exitdeeds.words import live_halves, sifted


def parting_answers(charts, links_to, book):
    """Return answers for which the runs of the two charts differ, or None if there are none.

    `links_to(chart, leaving, book)` returns the list of the links of a chart
    that are on a way to the leaving, each with what it puts for it: a normal
    form without arguments that name cells.
    """
    met, parted = meetings(*charts)
    if parted is not None:
        return parted
    for leaving in charts[0].leavings():
        links = [links_to(chart, leaving, book) for chart in charts]
        outs = (out_row_of(charts[0], leaving), out_row_of(charts[1], leaving))
        for answers in suspects(joint_links(links, met), outs, met, leaving, book):
            lying = [agenda_behind(side, answers, leaving, book) for side in links]
            if lying[0] != lying[1]:
                return answers + telling_answers(lying, leaving[0], book)
    return None


def meetings(left, right):
    """Follow two charts with the same answers.

    Return (met, parted). `met` is a dict of the pairs of rows to which the
    same answers lead, each with the first such answers. `parted` is None, or
    answers for which the runs differ before any way out.
    """
    met = {(0, 0): ()}
    pairs = [(0, 0)]
    at = 0
    while at < len(pairs):
        pair = pairs[at]
        rows = (left.rows[pair[0]], right.rows[pair[1]])
        if rows[0][0] != rows[1][0]:
            return met, (*met[pair], 0)
        for answer, following in enumerate(zip(left.targets(pair[0]), right.targets(pair[1]))):
            if following not in met:
                met[following] = (*met[pair], answer)
                pairs.append(following)
        at = at + 1
    return met, None


def joint_links(links, met):
    """Return the links between the pairs of rows on the ways to a leaving, with both words.

    `links` are the links of the two charts. The puts at the start are a link
    from the pair (-1, -1).
    """
    left, right = [{link[:2]: link[2:] for link in side} for side in links]
    found = []
    for pair in [(-1, -1), *met]:
        for answer in (0, 1):
            if (pair[0], answer) in left:
                one, word = left[(pair[0], answer)]
                two, other = right[(pair[1], answer)]
                found.append((pair, answer, (one, two), (word, other)))
    return found


def suspects(links, outs, met, leaving, book):
    """Return the answers of at most two worlds that lead both charts to the leaving.

    If the agendas of the two charts there differ for any world, they differ for
    one of these. The search goes from the leaving back to the start. A place is
    a tuple (pair, states, states) of the rows and of what can be pending there.
    The agendas read so far are equal but for what one of them has more; from
    one place on, two different rests cannot both be made good.
    """
    into = links_by_target(links)
    states = (state(leaving[0]),)
    places = [(outs, states, states)]
    known = {places[0]: (((), ()), ())}
    at = 0
    while at < len(places):
        place = places[at]
        at = at + 1
        for link in into.get(place[0], []):
            pair = link[0]
            before, rests, answers = step_back(link, place, known[place], book)
            if pair[0] < 0:
                if rests != ((), ()):
                    return [answers]
            elif rests[0] and rests[1]:
                return [met[pair] + answers]
            elif before not in known:
                known[before] = (rests, answers)
                places.append(before)
            elif known[before][0] != rests:
                return [met[pair] + answers, met[pair] + known[before][1]]
    return []


def step_back(link, place, reached, book):
    """Return the place before a link, what each agenda has more there, and the answers from there on."""
    pair, answer, _, put = link
    (left, right), answers = reached
    first, first_states = sifted(put[0], place[1], book)
    second, second_states = sifted(put[1], place[2], book)
    rests = without_common_end(first + left, second + right)
    if pair[0] >= 0:
        answers = (answer, *answers)
    return (pair, first_states, second_states), rests, answers


def without_common_end(first, second):
    """Return the two words without the longest end that both of them have."""
    while first and second and first[-1] == second[-1]:
        first, second = first[:-1], second[:-1]
    return first, second


def agenda_behind(links, answers, leaving, book):
    """Return the agenda with which the answers lead over these links to the leaving."""
    following = {link[:2]: link[2:] for link in links}
    row, word = following[(-1, 0)]
    found = list(word)
    for answer in answers:
        row, word = following[(row, answer)]
        found.extend(word)
    return live_halves(tuple(found), (state(leaving[0]),), book)


def telling_answers(lying, pending, book):
    """Return answers for which the ways out of two agendas that are not equal differ."""
    answers = ()
    while lying[0] and lying[1] and lying[0][-1][:3] == lying[1][-1][:3]:
        answer = 0
        left, lower = behind_answer(lying, pending, 0, book)
        if lower[0] == lower[1]:
            # The ways out differ for some answers, so they do behind the other answer.
            answer = 1
            left, lower = behind_answer(lying, pending, 1, book)
        pending, lying = left, lower
        answers = (*answers, answer)
    # Now the next questions are not the same, or only one of the two has any.
    return (*answers, 0)


def behind_answer(lying, pending, answer, book):
    """Return the exit that is pending, and both agendas, behind the answer to the question on top of them."""
    guard, step = lying[0][-1][:2]
    left = after(pending, step, book[step], guard, answer)
    lower = []
    for word in lying:
        further = word[-1][3] if answer == 1 else ()
        lower.append(live_halves(word[:-1] + further, (state(left),), book))
    return left, lower
