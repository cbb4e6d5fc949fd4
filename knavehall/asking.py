"""Questions, and plans of questions by which a world is found out."""

from knavehall.worlds import so, would_say, worlds


def answer(world, question):
    return so(would_say(question), world)


def walked(plan, questions, world):
    left = plan
    asked = 0
    while left[0] == "ask":
        left = left[2] if answer(world, questions[left[1]]) == 1 else left[3]
        asked += 1
    return (left[1], asked)


def answers_by_world(question, group):
    answers = {}
    for world in group:
        answers[world] = answer(world, question)
    return answers


# The searches below give a pair: the most questions that are asked, and the plan; None where there is no plan.
# A table holds, for each question, its answers by world; found keeps what was found of each group of worlds,
# since the same group is met again and again by asking the same questions in another order.
def shortest(group, table, found):
    if len(group) == 1:
        return (0, ("world", group[0]))
    if group not in found:
        found[group] = shortest_asking(group, table, found)
    return found[group]


def shortest_asking(group, table, found):
    best = None
    for n in range(len(table)):
        tried = asking_first(n, group, table, found)
        if tried is not None and (best is None or tried[0] < best[0]):
            best = tried
    return best


def asking_first(n, group, table, found):
    yes = tuple([world for world in group if table[n][world] == 1])
    no = tuple([world for world in group if table[n][world] == 0])
    # A question with the same answer in all worlds of the group tells nothing.
    if len(yes) == 0 or len(no) == 0:
        return None
    after_yes = shortest(yes, table, found)
    after_no = shortest(no, table, found)
    if after_yes is None or after_no is None:
        return None
    return (1 + max(after_yes[0], after_no[0]), ("ask", n, after_yes[1], after_no[1]))


def shortest_of(hall, questions):
    group = worlds(hall)
    table = [answers_by_world(question, group) for question in questions]
    return shortest(group, table, {})


def plan(hall, questions):
    best = shortest_of(hall, questions)
    return None if best is None else best[1]


def least(hall, questions):
    best = shortest_of(hall, questions)
    return None if best is None else best[0]
